"""Point 6 (keys, fixed)."""

import unittest
from itertools import combinations

from tests.lines import cover, fixed, found, holds, keys, last, rows, run, still, support, table

FOUR = "(table t ((a (up 9) maybe) (b (up 9)) (c (up 9)) (d (of x y) maybe)) {})"
PLAIN = FOUR.format("(1 1 1 x) (1 2 1 x) (2 1 2 ()) (2 1 2 ())")


def least(cells, shape=FOUR):
    """The keys that are answered, one tuple of columns' numbers each."""
    answer = last(table(shape.format(cells)), keys("t"))
    told = []
    rest = answer[1:]
    while rest:
        told.append(tuple(rest[1:1 + rest[0]]))
        rest = rest[1 + rest[0]:]
    if len(told) != answer[0]:
        raise AssertionError(answer)
    return told


class Keys(unittest.TestCase):
    def test_in_order(self):
        self.assertEqual(last(table(FOUR.format("(1 1 5 x) (1 2 4 x) (2 1 3 x)")), keys("t")), [2, 1, 2, 2, 0, 1])
        self.assertEqual(least("(1 1 1 x) (1 2 2 x) (2 1 2 x)"), [(0, 1), (0, 2), (1, 2)])

    def test_none(self):
        self.assertEqual(last(table(FOUR.format("(1 1 1 x) (1 1 1 x)")), keys("t")), [0])
        cube = " ".join(f"({n // 8} {n // 4 % 2} {n // 2 % 2} {'xy'[n % 2]})" for n in range(16))
        self.assertEqual(last(table(FOUR.format(cube)), keys("t")), [0])

    def test_three_columns(self):
        cube = " ".join(f"({n // 4} {n // 2 % 2} 0 {'xy'[n % 2]})" for n in range(8))
        self.assertEqual(last(table(FOUR.format(cube)), keys("t")), [1, 3, 0, 1, 3])

    def test_no_columns(self):
        for cells in ("", "(1 1 1 x)"):
            self.assertEqual(last(table(FOUR.format(cells)), keys("t")), [1, 0])

    def test_missing_cells_are_the_same(self):
        self.assertEqual(least("(() 1 1 x) (1 1 1 x) (2 1 1 x)"), [(0,)])
        self.assertEqual(least("(() 1 1 x) (() 1 1 y)"), [(3,)])
        self.assertEqual(least("(() 1 1 ()) (() 1 1 ())"), [])

    def test_twenty_keys(self):
        """Any three columns are a key, no two: the most that may be."""
        shape = "(table t ((a (up 99)) (b (up 99)) (c (up 99)) (d (up 99)) (e (up 99)) (f (up 99))) {})"
        cells = []
        for k, two in enumerate(combinations(range(6), 2)):
            # Two rows that are alike in just these two columns, and with no others in any.
            cells += [[2 * k] * 6, [2 * k if place in two else 2 * k + 1 for place in range(6)]]
        told_rows = " ".join("(" + " ".join(map(str, row)) + ")" for row in cells)
        self.assertEqual(least(told_rows, shape), list(combinations(range(6), 3)))

    def test_follows_the_rows(self):
        answered = run(table(PLAIN), keys("t"), rows("t", "(1 1 1 x) (1 2 1 x)"), keys("t"), rows("t", ""), keys("t"))
        self.assertEqual(answered[1::2], [[0], [1, 1, 1], [1, 0]])

    def test_each_table_has_its_own(self):
        u = table("(table u ((k (up 9)) (m (up 9))) (1 1) (1 2))")
        self.assertEqual(run(table(PLAIN), u, keys("t"), keys("u"))[2:], [[0], [1, 1, 1]])

    def test_no_such_table(self):
        for name in ("", "u", "T", "t ", "\nt", "t?", [200], [116] * 6000):
            self.assertEqual(last(table(PLAIN), keys(name)), [-3], name)
        self.assertEqual(last(keys("t")), [-3])


class Fixed(unittest.TestCase):
    def assert_fixed(self, columns, numbers, text=PLAIN):
        self.assertEqual(last(table(text), fixed("t", columns)), [len(numbers), *numbers], columns)

    def test_by_some_columns(self):
        self.assert_fixed("a", [0, 2, 3])
        self.assert_fixed("b", [1])
        self.assert_fixed("c", [0, 2, 3])
        self.assert_fixed("d", [0, 2, 3])
        self.assert_fixed("a b", [0, 1, 2, 3])

    def test_by_none(self):
        self.assert_fixed("", [])
        self.assert_fixed(" \n", [])
        self.assert_fixed("", [1, 2], FOUR.format("(1 1 5 x) (1 1 5 ()) (2 1 5 x)"))

    def test_by_all(self):
        self.assert_fixed("a b c d", [0, 1, 2, 3])

    def test_numbers_rise_whatever_the_order_of_the_names(self):
        self.assert_fixed("d a", [0, 2, 3])
        self.assert_fixed("d\nb", [0, 1, 2, 3])

    def test_names_may_come_again(self):
        self.assert_fixed("b b", [1])
        self.assert_fixed("a a c a", [0, 2, 3])
        self.assert_fixed("b " * 2000, [1])

    def test_more_than_two_columns(self):
        cube = " ".join(f"({n // 4} {n // 2 % 2} {n % 2} {'xy'[(n // 4 + n // 2 + n) % 2]})" for n in (*range(8), 0))
        self.assert_fixed("a b", [0, 1], FOUR.format(cube))
        self.assert_fixed("a b c", [0, 1, 2, 3], FOUR.format(cube))

    def test_at_most_one_row(self):
        for cells in ("", "(1 1 1 x)"):
            for columns in ("", "b", "d c"):
                self.assert_fixed(columns, [0, 1, 2, 3], FOUR.format(cells))

    def test_missing_cells_are_the_same(self):
        self.assert_fixed("a", [0, 1, 2], FOUR.format("(() 1 1 x) (() 1 1 ()) (1 2 1 x)"))
        self.assert_fixed("a", [0, 1, 2, 3], FOUR.format("(() 1 1 ()) (() 1 1 ()) (1 2 1 x)"))
        self.assert_fixed("a", [0, 2, 3], FOUR.format("(() 1 1 x) (() 2 1 x) (1 2 1 x)"))

    def test_follows_the_rows(self):
        asked = fixed("t", "b")
        answered = run(table(PLAIN), asked, rows("t", "(1 1 1 x) (1 2 1 x)"), asked, rows("t", "(1 1 1 x) (1 1 2 x)"),
                       asked)
        self.assertEqual(answered[1::2], [[1, 1], [4, 0, 1, 2, 3], [3, 0, 1, 3]])

    def test_each_table_has_its_own(self):
        u = table("(table u ((b (up 9)) (a (up 9))) (1 1) (1 2))")
        self.assertEqual(run(table(PLAIN), u, fixed("t", "b"), fixed("u", "a"), fixed("u", "b"))[2:],
                         [[1, 1], [2, 0, 1], [1, 0]])


class FixedRefusals(unittest.TestCase):
    def assert_refused(self, number, name, texts):
        for text in texts:
            self.assertEqual(last(table(PLAIN), fixed(name, text)), [number], (name, text))

    def test_no_such_table(self):
        for name in ("", "u", "T", "t ", "\nt", "t?", [200], [116] * 6000):
            self.assert_refused(-3, name, ["", "a"])
        self.assertEqual(last(fixed("t", "")), [-3])

    def test_unreadable(self):
        self.assert_refused(-1, "t", ["(", "a)", "a (b", "1a", "a-b_c", "-a", "01", "1000001", "a" * 21, [9], [97, 0],
                                      "a" + " " * 4000, "(" * 41 + ")" * 41])
        self.assertEqual(last(table(PLAIN), fixed("t", "b" + " " * 3999)), [1, 1])

    def test_no_word(self):
        self.assert_refused(-2, "t", ["1", "()", "(a)", "a 0", "a () b", "(a b)", "(" * 40 + ")" * 40])

    def test_no_column(self):
        self.assert_refused(-5, "t", ["q", "A", "a q", "q a", "aa", "a.", "x", "t", "a" * 20])

    def test_another_tables_column(self):
        u = table("(table u ((k (up 9))) (1))")
        self.assertEqual(run(table(PLAIN), u, fixed("t", "k"), fixed("u", "k"), fixed("u", "a"))[2:],
                         [[-5], [1, 0], [-5]])

    def test_order_of_refusals(self):
        self.assert_refused(-3, "u", ["(", "1", "q", "1 q ("])
        self.assert_refused(-1, "t", ["1 q (", "q )", "() 01"])
        self.assert_refused(-2, "t", ["q 1", "1 q", "q (q)"])
        self.assert_refused(-5, "t", ["q"])


class AsItWas(unittest.TestCase):
    def test_nothing_is_changed(self):
        asked = [found("t"), support(0, "t"), cover("t"), still("t", "(1 1 1 x)"), holds("(key t (a b))"), keys("t"),
                 fixed("t", "a")]
        before = run(table(PLAIN), *asked)[1:]
        between = [keys("t"), keys("u"), fixed("t", "a b"), fixed("u", "a"), fixed("t", "("), fixed("t", "1"),
                   fixed("t", "q")]
        answered = run(table(PLAIN), *between, *asked)
        self.assertEqual(answered[1:8], [[0], [-3], [4, 0, 1, 2, 3], [-3], [-1], [-2], [-5]])
        self.assertEqual(answered[8:], before)
