"""The document's own examples, word for word."""

import unittest

from tests.lines import (cover, fixed, follows, found, holds, keys, last, rows, run, still, support, table, text_of,
                         told)

T = ("(table t ((id (up 100)) (a (up 10) maybe) (b (of x y z)) (c (up 10))) "
     "(1 2 x 5) (2 2 x 5) (3 4 y 7))")
U = "(table u ((k (up 100))) (1) (3))"
FOUND_T = (
    "(each t (not (gone (col a)))) "
    "(each t (or (gone (col id)) (and (not (less (col id) 1)) (not (less 3 (col id)))))) "
    "(each t (or (gone (col a)) (and (not (less (col a) 2)) (not (less 4 (col a)))))) "
    "(each t (or (gone (col c)) (and (not (less (col c) 5)) (not (less 7 (col c)))))) "
    "(each t (or (gone (col b)) (same (col b) (word x)) (same (col b) (word y)))) "
    "(each t (or (gone (col id)) (gone (col a)) (not (less (col a) (col id))))) "
    "(next t (or (gone (one id)) (gone (two id)) (not (less (two id) (one id))))) "
    "(next t (or (gone (one a)) (gone (two a)) (not (less (two a) (one a))))) "
    "(next t (or (gone (one c)) (gone (two c)) (not (less (two c) (one c))))) "
    "(key t (id)) (fixes t (b) (a)) (fixes t (c) (a)) (fixes t (a) (b)) (fixes t (c) (b)) "
    "(fixes t (a) (c)) (fixes t (b) (c))"
)
FOUND_U = (
    "(each u (or (gone (col k)) (and (not (less (col k) 1)) (not (less 3 (col k)))))) "
    "(next u (or (gone (one k)) (gone (two k)) (not (less (two k) (one k))))) "
    "(key u (k)) (refers u (k) t (id))"
)
COVER_T = "(key t (id)) (fixes t (b) (a)) (fixes t (c) (a)) (fixes t (a) (b)) (fixes t (a) (c))"
STILL_T = [13, 0, 1, 4, 5, 6, 7, 8, 10, 11, 12, 13, 14, 15]


class Examples(unittest.TestCase):
    def test_table(self):
        self.assertEqual(last(table(T)), [4, 3])
        self.assertEqual(last(table(T), table(U)), [1, 2])

    def test_found(self):
        answer = last(table(T), found("t"))
        self.assertEqual((answer[0], text_of(answer[1:])), (16, FOUND_T))

    def test_found_with_reference(self):
        answer = last(table(T), table(U), found("u"))
        self.assertEqual((answer[0], text_of(answer[1:])), (4, FOUND_U))

    def test_told(self):
        self.assertEqual(text_of(last(table(T), told(9, "t"))), "(key t (id))")

    def test_support(self):
        self.assertEqual(last(table(T), support(5, "t")), [3])
        self.assertEqual(last(table(T), support(6, "t")), [2])
        self.assertEqual(last(table(T), support(10, "t")), [2])

    def test_holds(self):
        self.assertEqual(last(table(T), holds("(key t (b))")), [0, 1])

    def test_keys(self):
        self.assertEqual(last(table(T), keys("t")), [1, 1, 0])

    def test_fixed(self):
        self.assertEqual(last(table(T), fixed("t", "b")), [3, 1, 2, 3])

    def test_cover(self):
        answer = last(table(T), cover("t"))
        self.assertEqual((answer[0], text_of(answer[1:])), (5, COVER_T))

    def test_follows(self):
        self.assertEqual(last(table(T), follows(10, "t")), [1])
        self.assertEqual(last(table(T), follows(9, "t")), [0])
        self.assertEqual(last(table(T), follows(0, "t")), [-6])

    def test_still(self):
        self.assertEqual(last(table(T), still("t", "(1 2 x 5) (1 9 y 9)")), STILL_T)

    def test_one_behind_the_other(self):
        """All examples in one list, as the document tells them, and rows, of which it tells none."""
        answered = run(
            table(T), found("t"), told(9, "t"), support(5, "t"), support(6, "t"), support(10, "t"), keys("t"),
            fixed("t", "b"), cover("t"), follows(10, "t"), follows(9, "t"), follows(0, "t"),
            still("t", "(1 2 x 5) (1 9 y 9)"), holds("(key t (b))"), table(U), found("u"), rows("u", "(1) (4)"),
            found("t"))
        texts = [list(text.encode()) for text in (FOUND_T, "(key t (id))", COVER_T, FOUND_U)]
        self.assertEqual(answered, [
            [4, 3], [16] + texts[0], texts[1], [3], [2], [2], [1, 1, 0], [3, 1, 2, 3], [5] + texts[2], [1], [0], [-6],
            STILL_T, [0, 1], [1, 2], [4] + texts[3], [2], [16] + texts[0]])
