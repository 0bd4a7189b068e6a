"""Point 5 (still)."""

import unittest

from tests.lines import (cover, fixed, follows, found, found_texts, holds, keys, last, rows, run, still, support, table,
                         told)

T = "(table t ((a (up 9) maybe) (b (up 9)) (w (of x y z))) (1 1 x) (2 2 y) (4 3 x))"
U = "(table u ((k (up 9) maybe) (v (of x y))) (1 x) (2 y) (4 y))"


def kept(text, name="t", calls=(table(T),)):
    """The found claims that still hold with the text's rows, by their texts."""
    answer = last(*calls, still(name, text))
    numbers = answer[1:]
    if len(numbers) != answer[0] or numbers != sorted(set(numbers)):
        raise AssertionError(answer)
    texts = found_texts(name, *calls)
    return [texts[k] for k in numbers]


def lost(text, name="t", calls=(table(T),)):
    left = kept(text, name, calls)
    return [claim for claim in found_texts(name, *calls) if claim not in left]


def rising(c):
    return f"(next t (or (gone (one {c})) (gone (two {c})) (not (less (two {c}) (one {c})))))"


FILLED = "(each t (not (gone (col a))))"
RANGE_A = "(each t (or (gone (col a)) (and (not (less (col a) 1)) (not (less 4 (col a))))))"
RANGE_B = "(each t (or (gone (col b)) (and (not (less (col b) 1)) (not (less 3 (col b))))))"
WORDS = "(each t (or (gone (col w)) (same (col w) (word x)) (same (col w) (word y))))"
BELOW = "(each t (or (gone (col b)) (gone (col a)) (not (less (col a) (col b)))))"
KEY_A, KEY_B = "(key t (a))", "(key t (b))"
ALL = [FILLED, RANGE_A, RANGE_B, WORDS, BELOW, rising("a"), rising("b"), KEY_A, KEY_B]


class Still(unittest.TestCase):
    def test_what_is_looked_at(self):
        self.assertEqual(found_texts("t", table(T)), ALL)

    def test_with_its_own_rows(self):
        self.assertEqual(last(table(T), still("t", "(1 1 x) (2 2 y) (4 3 x)")), [9, *range(9)])

    def test_with_no_rows(self):
        for text in ("", " \n"):
            self.assertEqual(last(table(T), still("t", text)), [9, *range(9)])

    def test_each_sort_alone(self):
        self.assertEqual(lost("(() 1 x) (2 2 x)"), [FILLED])
        self.assertEqual(lost("(1 1 x) (5 2 x)"), [RANGE_A])
        self.assertEqual(lost("(1 0 x) (2 2 x)"), [RANGE_B])
        self.assertEqual(lost("(1 1 x) (2 2 z)"), [WORDS])
        self.assertEqual(lost("(1 2 x) (3 3 x)"), [BELOW])
        self.assertEqual(lost("(4 1 x) (3 2 x)"), [rising("a")])
        self.assertEqual(lost("(3 2 x) (4 1 x)"), [rising("b")])
        self.assertEqual(lost("(2 1 x) (2 2 x)"), [KEY_A])
        self.assertEqual(lost("(2 1 x) (3 1 x)"), [KEY_B])

    def test_missing_cells(self):
        self.assertEqual(lost("(4 1 x) (() 2 x) (1 3 x)"), [FILLED, BELOW])
        self.assertEqual(lost("(4 1 x) (() 2 x) (3 3 x)"), [FILLED])
        self.assertEqual(lost("(() 1 x) (() 2 x)"), [FILLED, KEY_A])

    def test_no_claim_holds(self):
        self.assertEqual(last(table(T), still("t", "(8 8 z) (7 7 z) (1 2 x) (() 0 x) (1 2 x) (1 2 x)")), [0])

    def test_fixed_columns(self):
        calls = (table("(table t ((w (of x y z)) (v (of x y z)) (u (of x))) (x y x) (x y x) (y y x) (z x x))"),)
        claims = ["(fixes t (w) (v))", "(fixes t () (u))"]
        self.assertEqual(found_texts("t", *calls), ["(each t (or (gone (col v)) (same (col v) (word x)) "
                                                    "(same (col v) (word y))))", *claims])
        self.assertEqual(last(*calls, still("t", "(z z x)")), [2, 1, 2])
        self.assertEqual(last(*calls, still("t", "(z y x) (y x x) (z y x)")), [3, 0, 1, 2])
        self.assertEqual(last(*calls, still("t", "(z y x) (y x x) (z x x)")), [2, 0, 2])

    def test_a_fixed_column_that_is_always_the_same(self):
        calls = (table("(table t ((a (up 9))) (5) (5))"),)
        self.assertEqual(lost("(4) (4)", "t", calls), [found_texts("t", *calls)[0]])
        self.assertEqual(kept("(5) (4)", "t", calls), [])

    def test_a_key_of_no_columns(self):
        calls = (table("(table t ((w (of x y))) (x))"),)
        self.assertEqual(kept("(x)", "t", calls)[-1:], ["(key t ())"])
        self.assertEqual(kept("(x) (x)", "t", calls), found_texts("t", *calls)[:-1])
        self.assertEqual(kept("(y)", "t", calls), ["(key t ())"])

    def test_only_what_was_found_before(self):
        """More is found with the other rows: that's not asked."""
        calls = (table("(table t ((w (of x y))) (x) (y) (x))"),)
        self.assertEqual(last(*calls, still("t", "(x)")), [0])


class References(unittest.TestCase):
    REFERS = "(refers t (a) u (k))"

    def test_into_another_table_as_it_stands(self):
        calls = (table(T), table(U))
        self.assertIn(self.REFERS, found_texts("t", *calls))
        self.assertIn(self.REFERS, kept("(4 1 x)", "t", calls))
        self.assertIn(self.REFERS, kept("(4 1 x) (4 2 x)", "t", calls))
        self.assertIn(self.REFERS, kept("(() 1 x)", "t", calls))
        self.assertNotIn(self.REFERS, kept("(4 1 x) (3 1 x)", "t", calls))
        # 8 is no longer there, 5 is now.
        calls = (table(T), table("(table u ((k (up 9))) (1) (2) (4) (8))"), rows("u", "(1) (2) (4) (5)"))
        self.assertIn(self.REFERS, kept("(5 1 x)", "t", calls))
        self.assertNotIn(self.REFERS, kept("(8 1 x)", "t", calls))

    def test_whatever_place_the_table_has(self):
        v = "(table v ((k (up 9))) (8))"
        for calls in ((table(T), table(U), table(v)), (table(U), table(T), table(v)), (table(v), table(U), table(T))):
            claims = found_texts("t", *calls)
            self.assertEqual(claims[:9], ALL)
            self.assertEqual([claim for claim in claims if "refers" in claim and " v " in claim], [])
            self.assertIn(self.REFERS, kept("(4 1 x)", "t", calls))
            self.assertNotIn(self.REFERS, kept("(8 1 x)", "t", calls))

    def test_both_into_one_another(self):
        calls = (table(T), table("(table s ((k (up 9))) (2) (1) (4))"))
        self.assertIn("(refers t (a) s (k))", found_texts("t", *calls))
        self.assertIn("(refers s (k) t (a))", found_texts("s", *calls))
        # With other rows of t, t's own rows are not what s has, and the other way round.
        self.assertIn("(refers t (a) s (k))", kept("(2 1 x)", "t", calls))
        self.assertNotIn("(refers t (a) s (k))", kept("(5 1 x)", "t", calls))
        self.assertIn("(refers s (k) t (a))", kept("(4)", "s", calls))
        self.assertNotIn("(refers s (k) t (a))", kept("(5)", "s", calls))

    def test_each_refers_claim_by_itself(self):
        t = "(table t ((a (up 9)) (w (of x y z))) (1 x) (1 x) (2 x))"
        u = "(table u ((c (up 9)) (d (up 9)) (e (of x z))) (1 2 x) (2 3 z) (3 1 x))"
        calls = (table(t), table(u))
        claims = ["(refers t (a) u (c))", "(refers t (a) u (d))"]
        self.assertEqual([claim for claim in found_texts("t", *calls) if "refers" in claim], claims)
        self.assertEqual(kept("(3 x)", "t", calls)[-2:], claims)
        calls = (*calls, rows("u", "(1 2 x) (2 1 z) (3 4 x)"))
        self.assertEqual([claim for claim in found_texts("t", *calls) if "refers" in claim], claims)
        self.assertEqual(kept("(3 x)", "t", calls)[-1:], claims[:1])
        self.assertEqual(kept("(4 x)", "t", calls)[-1:], claims[1:])


class AsItWas(unittest.TestCase):
    ASKED = [found("t"), found("u"), support(0, "t"), told(3, "t"), keys("t"), fixed("t", "w"), cover("t"),
             follows(7, "t"), holds("(groups t () (count) 3 3)"), holds("(refers t (a) u (k))"),
             holds("(refers u (k) t (a))")]

    def test_the_table_stays(self):
        before = run(table(T), table(U), *self.ASKED)
        for text in ("", "(1 1 x)", "(8 8 z) (7 7 z) (1 2 x)"):
            answered = run(table(T), table(U), still("t", text), *self.ASKED)
            self.assertGreaterEqual(answered[2][0], 0)
            self.assertEqual(answered[3:], before[2:])

    def test_asked_twice(self):
        other = still("t", "(8 8 z) (7 7 z)")
        answered = run(table(T), other, still("t", ""), other, rows("t", "(8 8 z)"), still("t", "(1 1 x)"))
        self.assertEqual(answered[1], answered[3])
        self.assertEqual(answered[2], [9, *range(9)])
        # Now it's the new rows' claims that are looked at: filled, a's and b's range, the word, same, the key.
        self.assertEqual(answered[5], [3, 0, 4, 5])

    def test_after_a_refusal(self):
        before = run(table(T), table(U), *self.ASKED)
        refused = [still("q", ""), still("t", "(1 1 x"), still("t", "(1 1 x) 5"), still("t", "(1 1 x) (9 1 x)")]
        answered = run(table(T), table(U), *refused, *self.ASKED)
        self.assertEqual(answered[2:6], [[-3], [-1], [-2], [-4]])
        self.assertEqual(answered[6:], before[2:])


class Refusals(unittest.TestCase):
    def assert_refused(self, number, name, texts):
        for text in texts:
            self.assertEqual(last(table(T), still(name, text)), [number], (name, text))

    def test_no_such_table(self):
        for name in ("", "u", "T", "tt", " t", "t ", "t\n", "(t)", "t?", [255], [116] * 6000):
            self.assert_refused(-3, name, ["", "(1 1 x)"])
        self.assertEqual(last(still("t", "")), [-3])

    def test_unreadable(self):
        self.assert_refused(-1, "t", ["(1 1 x", "(1 1 x))", ")", "(01 1 x)", "(1 1 x)" + " " * 3994,
                                      "(" * 41 + ")" * 41, "(1 1 1x)", "(1 1000001 x)", [9], [0]])
        self.assertEqual(last(table(T), still("t", "(1 1 x)" + " " * 3993))[0], 9)

    def test_no_lists_of_cells(self):
        self.assert_refused(-2, "t", ["1", "x", "(1 1 x) 5", "((1) 1 x)", "(1 1 (x))", "((1 1 x))",
                                      "(1 1 x) (1 (()) x)", "(1 1 x) " * 41])
        self.assertEqual(len(last(table(T), still("t", "(1 1 x) " * 40))), 8)

    def test_wrong_cells(self):
        self.assert_refused(-4, "t", ["()", "(1 1)", "(1 1 x x)", "(9 1 x)", "(x 1 x)", "(1 9 x)", "(1 1 q)", "(1 1 1)",
                                      "(1 () x)", "(1 1 ())", "(1 1 x) (2 2 y) (9 2 y)"])

    def test_order_of_refusals(self):
        self.assert_refused(-3, "u", ["(1 1 x", "5", "(9 9)"])
        self.assert_refused(-1, "t", ["5 (", "(9) (", "(9) 5 )"])
        self.assert_refused(-2, "t", ["(9) 5", "5 (9)", "(9) " * 41])
        self.assert_refused(-4, "t", ["(9)"])
