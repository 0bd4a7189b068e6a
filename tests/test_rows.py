"""Point 2 (rows)."""

import unittest

from tests.lines import found, holds, last, rows, run, support, table

T = "(table t ((a (up 5) maybe) (b (of x y))) (1 x) (2 y) (3 x))"


class Rows(unittest.TestCase):
    def test_just_these_rows(self):
        answered = run(table(T), rows("t", "(4 y) (() x)"), holds("(groups t () (count) 2 2)"),
                       holds("(any t (same (col a) 1))"), holds("(any t (same (col a) 4))"))
        self.assertEqual(answered[1:], [[2], [1, 0], [0, 1], [1, 0]])

    def test_no_rows(self):
        for text in ("", " \n "):
            self.assertEqual(run(table(T), rows("t", text), holds("(any t (and))"))[1:], [[0], [0, 1]])

    def test_blanks_may_be_left_out(self):
        self.assertEqual(last(table(T), rows("t", "(1 x)(2\ny)\n")), [2])

    def test_like_a_new_table(self):
        other = table("(table t ((a (up 5) maybe) (b (of x y))) (4 y) (() x))")
        self.assertEqual(last(table(T), rows("t", "(4 y) (() x)"), found("t")), last(other, found("t")))

    def test_like_a_new_table_with_no_rows(self):
        """No cell is missing then, but there's no row either: nothing is filled."""
        other = table("(table t ((a (up 5) maybe) (b (of x y))))")
        self.assertEqual(last(table(T), rows("t", ""), found("t")), last(other, found("t")))
        self.assertEqual(last(table(T), rows("t", ""), found("t")), [1] + list(b"(key t ())"))

    def test_how_many(self):
        self.assertEqual(last(table(T), rows("t", "(1 x) " * 40)), [40])
        self.assertEqual(last(table(T), rows("t", "(1 x) " * 41)), [-2])

    def test_no_such_table(self):
        for name in ("", "u", "T", "tt", " t", "t ", "t\n", "(t)", "t?", [255], [116] * 6000):
            self.assertEqual(last(table(T), rows(name, "(1 x)")), [-3], name)
        self.assertEqual(last(rows("t", "")), [-3])

    def test_unreadable(self):
        for text in ("(1 x", "(1 x))", "(01 x)", "(1 x)" + " " * 3996, "(" * 41 + ")" * 41, [9]):
            self.assertEqual(last(table(T), rows("t", text)), [-1], text)
        self.assertEqual(last(table(T), rows("t", "(1 x)" + " " * 3995)), [1])

    def test_no_lists_of_cells(self):
        for text in ("1", "x", "(1 x) 5", "((1) x)", "(1 (x))", "((1 x))", "(1 x) (1 (()))"):
            self.assertEqual(last(table(T), rows("t", text)), [-2], text)

    def test_wrong_cells(self):
        for text in ("()", "(1)", "(1 x x)", "(5 x)", "(x x)", "(1 z)", "(1 1)", "(1 ())", "(1 x) (2 y) (5 y)"):
            self.assertEqual(last(table(T), rows("t", text)), [-4], text)

    def test_order_of_refusals(self):
        for name, text, number in (("u", "(1 x", -3), ("u", "5", -3), ("u", "(9)", -3), ("t", "5 (", -1),
                                   ("t", "(9) 5", -2), ("t", "(9) " * 41, -2), ("t", "(9)", -4)):
            self.assertEqual(last(table(T), rows(name, text)), [number], (name, text))

    def test_as_it_was_after_a_refusal(self):
        before = run(table(T), found("t"), support(0, "t"), holds("(groups t () (count) 3 3)"))
        refused = [rows("u", "(1 x)"), rows("t", "(1 x"), rows("t", "(1 x) 5"), rows("t", "(1 x) (9 x)")]
        answered = run(table(T), *refused, found("t"), support(0, "t"), holds("(groups t () (count) 3 3)"))
        self.assertEqual(answered[1:5], [[-3], [-1], [-2], [-4]])
        self.assertEqual(answered[5:], before[1:])

    def test_other_tables_keep_theirs(self):
        u = table("(table u ((a (up 5) maybe) (b (of x y))) (1 x) (2 y) (3 x))")
        answered = run(table(T), u, rows("u", ""), holds("(groups t () (count) 3 3)"), holds("(any u (and))"))
        self.assertEqual(answered[2:], [[0], [1, 0], [0, 1]])
