"""Point 4 (found, told, support): the eight sorts, their order, and where each is left out."""

import unittest

from tests.lines import found, found_texts, holds, last, run, rows, support, supports, table, text_of, told

NUMBERS = "(table t ((a (up 100) maybe) (b (up 100) maybe)) {})"


def texts(cells, head, shape=NUMBERS):
    return [text for text in found_texts("t", table(shape.format(cells))) if text.startswith(head)]


def support_of(text, name, *calls):
    return supports(name, *calls)[found_texts(name, *calls).index(text)]


def least_range(c, n, m):
    return f"(each t (or (gone (col {c})) (and (not (less (col {c}) {n})) (not (less {m} (col {c}))))))"


def below(c, d):
    return f"(each t (or (gone (col {c})) (gone (col {d})) (not (less (col {d}) (col {c})))))"


SAME = "(each t (or (gone (col a)) (gone (col b)) (same (col a) (col b))))"
COMPARED = (SAME, below("a", "b"), below("b", "a"))


def rising(c):
    return f"(next t (or (gone (one {c})) (gone (two {c})) (not (less (two {c}) (one {c})))))"


class Single(unittest.TestCase):
    def test_filled(self):
        shape = "(table t ((a (up 9) maybe) (b (of x) maybe) (c (up 9))) {})"
        filled = ["(each t (not (gone (col a))))", "(each t (not (gone (col b))))"]
        self.assertEqual(texts("(1 x 1) (2 x 2)", "(each t (not", shape), filled)
        self.assertEqual(texts("(1 x 1) (() x 2)", "(each t (not", shape), filled[1:])
        self.assertEqual(texts("(1 () 1) (2 x 2)", "(each t (not", shape), filled[:1])
        self.assertEqual(texts("", "(each t (not", shape), [])
        self.assertEqual(support_of(filled[0], "t", table(shape.format("(1 x 1) (2 x 2)"))), 2)

    def test_ranges(self):
        found_ranges = [text for text in texts("(7 ()) (3 ()) (() 5) (4 0)", "(each t (or") if "and" in text]
        self.assertEqual(found_ranges, [least_range("a", 3, 7), least_range("b", 0, 5)])
        self.assertEqual([text for text in texts("(() 5) (() 5)", "(each t (or")], [least_range("b", 5, 5)])
        self.assertEqual(texts("", "(each"), [])
        self.assertEqual(texts("(x) (y)", "(each", "(table t ((w (of x y))) {})"), [])
        calls = table(NUMBERS.format("(7 ()) (3 ()) (() 5) (4 0)"))
        self.assertEqual(support_of(least_range("a", 3, 7), "t", calls), 3)
        self.assertEqual(support_of(least_range("b", 0, 5), "t", calls), 2)

    def test_words(self):
        shape = "(table t ((w (of z y x) maybe) (n (up 9))) {})"
        some = "(each t (or (gone (col w)) (same (col w) (word z)) (same (col w) (word x))))"
        self.assertEqual(texts("(x 1) (z 1) (() 1) (x 1)", "(each t (or (gone (col w))", shape), [some])
        self.assertEqual(support_of(some, "t", table(shape.format("(x 1) (z 1) (() 1) (x 1)"))), 3)
        self.assertEqual(texts("(x 1) (z 1) (y 1)", "(each t (or (gone (col w))", shape), [])
        self.assertEqual(texts("(() 1) (() 1)", "(each t (or (gone (col w))", shape), [])
        self.assertEqual(texts("", "(each t (or (gone (col w))", shape), [])
        one_word = "(table t ((w (of x))) {})"
        self.assertEqual(texts("(x) (x)", "(each", one_word), [])


class Compared(unittest.TestCase):
    def assert_compared(self, cells, claims, shape=NUMBERS):
        self.assertEqual([text for text in texts(cells, "(each", shape) if text in COMPARED], claims, cells)

    def test_same(self):
        self.assert_compared("(1 1) (2 2)", [SAME])
        self.assert_compared("(1 1) (1 1)", [SAME])
        self.assert_compared("(1 1) (9 ()) (() 0)", [SAME])

    def test_below(self):
        self.assert_compared("(1 2) (3 3)", [below("a", "b")])
        self.assert_compared("(2 1) (3 3)", [below("b", "a")])
        self.assert_compared("(1 2) (3 4)", [below("a", "b")])
        self.assert_compared("(1 3) (2 1)", [])

    def test_left_out_where_the_ranges_say_it(self):
        self.assert_compared("(1 2) (2 3)", [])
        self.assert_compared("(1 2) (2 2)", [])
        self.assert_compared("(2 1) (3 2)", [])
        self.assert_compared("(2 1) (3 1)", [])

    def test_ranges_of_the_whole_columns(self):
        self.assert_compared("(1 5) (6 ())", [below("a", "b")])
        self.assert_compared("(1 5) (() 0)", [below("a", "b")])
        self.assert_compared("(1 5) (5 ())", [])
        self.assert_compared("(5 1) (() 6)", [below("b", "a")])
        self.assert_compared("(5 1) (0 ())", [below("b", "a")])
        self.assert_compared("(5 1) (() 5)", [])

    def test_some_row_misses_neither(self):
        self.assert_compared("(1 ()) (() 1)", [])
        self.assert_compared("", [])
        calls = table(NUMBERS.format("(1 2) (5 ()) (() 3) (3 3)"))
        self.assertEqual(support_of(below("a", "b"), "t", calls), 2)
        calls = table(NUMBERS.format("(1 1) (5 ()) (() 3) (3 3) (4 4)"))
        self.assertEqual(support_of(SAME, "t", calls), 3)

    def test_order_of_twos(self):
        shape = "(table t ((a (up 9)) (w (of x)) (b (up 9)) (c (up 9))) {})"
        compared = [text for text in texts("(1 x 1 1)", "(each", shape) if "same" in text]
        self.assertEqual(compared, [f"(each t (or (gone (col {c})) (gone (col {d})) (same (col {c}) (col {d}))))"
                                    for c, d in (("a", "b"), ("a", "c"), ("b", "c"))])

    def test_words_are_not_compared(self):
        self.assertEqual(texts("(x x) (y y)", "(each", "(table t ((v (of x y)) (w (of x y))) {})"), [])


class Rising(unittest.TestCase):
    def test_rising(self):
        self.assertEqual(texts("(1 5) (1 4) (3 4)", "(next"), [rising("a")])
        self.assertEqual(texts("(2 1) (2 2)", "(next"), [rising("a"), rising("b")])
        self.assertEqual(texts("(3 1) (() 2) (1 3)", "(next"), [rising("b")])
        self.assertEqual(texts("(3 ()) (4 2) (() 1) (1 ()) (2 9)", "(next"), [rising("a")])

    def test_left_out(self):
        self.assertEqual(texts("(1 1)", "(next"), [])
        self.assertEqual(texts("", "(next"), [])
        self.assertEqual(texts("(1 ()) (() 1) (2 ())", "(next"), [])
        self.assertEqual(texts("(x) (x)", "(next", "(table t ((w (of x y))) {})"), [])

    def test_support(self):
        calls = table(NUMBERS.format("(3 1) (4 2) (() 3) (1 ()) (2 9) (2 9)"))
        self.assertEqual(support_of(rising("a"), "t", calls), 3)
        self.assertEqual(support_of(rising("b"), "t", calls), 3)


FOUR = "(table t ((a (up 9) maybe) (b (up 9)) (c (up 9)) (d (up 9))) {})"


class Sets(unittest.TestCase):
    def test_least_keys(self):
        self.assertEqual(texts("(1 1 1 1) (1 2 2 1) (2 1 2 1)", "(key", FOUR),
                         ["(key t (a b))", "(key t (a c))", "(key t (b c))"])
        self.assertEqual(texts("(1 1 5 1) (1 2 4 1) (2 1 3 1)", "(key", FOUR), ["(key t (c))", "(key t (a b))"])

    def test_three_columns(self):
        cube = " ".join(f"({n // 4} {n // 2 % 2} {n % 2} 0)" for n in range(8))
        self.assertEqual(texts(cube, "(key", FOUR), ["(key t (a b c))"])
        cube = " ".join(f"({n // 8} {n // 4 % 2} {n // 2 % 2} {n % 2})" for n in range(16))
        self.assertEqual(texts(cube, "(key", FOUR), [])

    def test_missing_cells_are_the_same(self):
        self.assertEqual(texts("(() 1 1 1) (1 1 1 1)", "(key", FOUR), ["(key t (a))"])
        self.assertEqual(texts("(() 1 1 1) (() 1 1 1)", "(key", FOUR), [])

    def test_at_most_one_row(self):
        for cells in ("", "(1 2 3 4)"):
            self.assertEqual(texts(cells, "(key", FOUR), ["(key t ())"])
            self.assertEqual(texts(cells, "(fixes", FOUR), [])
        self.assertEqual(found_texts("t", table(FOUR.format(""))), ["(key t ())"])
        self.assertEqual(supports("t", table(FOUR.format(""))), [0])

    def test_key_support(self):
        calls = table(FOUR.format("(() 1 1 1) (1 1 1 1) (2 1 1 1)"))
        self.assertEqual(support_of("(key t (a))", "t", calls), 3)

    def test_fixed(self):
        self.assertEqual(texts("(1 1 1 1) (1 1 1 2) (2 1 2 3) (2 1 2 3)", "(fixes", FOUR),
                         ["(fixes t (c) (a))", "(fixes t (d) (a))", "(fixes t () (b))", "(fixes t (a) (c))",
                          "(fixes t (d) (c))"])

    def test_two_on_the_left(self):
        square = " ".join(f"({n // 2} {n % 2} {(n // 2 + n % 2) % 2} {n % 2})" for n in (0, 1, 2, 3, 3))
        self.assertEqual(texts(square, "(key", FOUR), [])
        self.assertEqual(texts(square, "(fixes", FOUR),
                         ["(fixes t (b c) (a))", "(fixes t (c d) (a))", "(fixes t (d) (b))", "(fixes t (a c) (b))",
                          "(fixes t (a b) (c))", "(fixes t (a d) (c))", "(fixes t (b) (d))", "(fixes t (a c) (d))"])

    def test_three_on_the_left_are_not_looked_at(self):
        cube = " ".join(f"({n // 4} {n // 2 % 2} {n % 2} {(n // 4 + n // 2 + n) % 2})" for n in (*range(8), 0))
        self.assertEqual(texts(cube, "(key", FOUR), [])
        self.assertEqual(texts(cube, "(fixes", FOUR), [])

    def test_left_sides_with_a_key_are_left_out(self):
        square = " ".join(f"({n // 2} {n % 2} {(n // 2 + n % 2) % 2} {n})" for n in range(4))
        self.assertEqual(texts(square, "(fixes", FOUR), [])
        self.assertEqual(texts(square, "(key", FOUR),
                         ["(key t (d))", "(key t (a b))", "(key t (a c))", "(key t (b c))"])

    def test_fixed_with_missing_cells(self):
        self.assertEqual(texts("(() 1 1 1) (() 1 1 1) (1 2 1 1)", "(fixes t (b)", FOUR), ["(fixes t (b) (a))"])
        self.assertEqual(texts("(() 1 1 1) (1 1 1 1) (1 1 1 1)", "(fixes t (b)", FOUR), [])
        self.assertEqual(texts("(() 1 1 1) (() 2 1 1) (1 1 1 1)", "(fixes t (a)", FOUR), [])

    def test_fixed_support(self):
        calls = table(FOUR.format("(1 1 1 1) (1 1 1 2) (2 1 2 3) (2 1 2 3) (3 1 3 4)"))
        self.assertEqual(support_of("(fixes t (c) (a))", "t", calls), 4)
        self.assertEqual(support_of("(fixes t (d) (a))", "t", calls), 2)
        self.assertEqual(support_of("(fixes t () (b))", "t", calls), 5)


class References(unittest.TestCase):
    def assert_refers(self, name, claims, *told_tables):
        calls = [table(text) for text in told_tables]
        self.assertEqual([text for text in found_texts(name, *calls) if text.startswith("(refers")], claims)

    def test_order(self):
        t = "(table t ((a (up 9)) (b (up 9))) (1 2) (2 1))"
        u = "(table u ((c (up 5)) (d (up 5))) (1 2) (2 1))"
        v = "(table v ((e (up 5))) (3) (1) (2))"
        self.assert_refers("t", ["(refers t (a) u (c))", "(refers t (a) u (d))", "(refers t (a) v (e))",
                                 "(refers t (b) u (c))", "(refers t (b) u (d))", "(refers t (b) v (e))"], t, u, v)
        self.assert_refers("t", ["(refers t (a) v (e))", "(refers t (a) u (c))", "(refers t (a) u (d))",
                                 "(refers t (b) v (e))", "(refers t (b) u (c))", "(refers t (b) u (d))"], v, t, u)
        self.assert_refers("v", [], t, u, v)
        self.assert_refers("t", [], t)

    def test_cells_are_there(self):
        u = "(table u ((c (up 5))) (1) (2))"
        self.assert_refers("t", ["(refers t (a) u (c))"], "(table t ((a (up 9))) (1) (1))", u)
        self.assert_refers("t", [], "(table t ((a (up 9))) (1) (3))", u)
        self.assert_refers("t", ["(refers t (a) u (c))"], "(table t ((a (up 9) maybe)) (1) (()))", u)
        self.assert_refers("t", [], "(table t ((a (up 9) maybe)) (()) (()))", u)
        self.assert_refers("t", [], "(table t ((a (up 9))))", u)

    def test_rows_of_the_other_are_not_alike(self):
        t = "(table t ((a (up 9))) (1))"
        self.assert_refers("t", [], t, "(table u ((c (up 5))) (1) (1))")
        self.assert_refers("t", ["(refers t (a) u (c))"], t, "(table u ((c (up 5) maybe)) (1) (()))")
        self.assert_refers("t", [], t, "(table u ((c (up 5) maybe)) (1) (()) (()))")
        self.assert_refers("t", [], t, "(table u ((c (up 5))))")

    def test_words_and_numbers(self):
        self.assert_refers("t", ["(refers t (a) u (c))"], "(table t ((a (of x y))) (x))",
                           "(table u ((c (of z x)) (n (up 5))) (x 1) (z 1))")
        self.assert_refers("t", [], "(table t ((a (of x y))) (y))", "(table u ((c (of z x))) (x) (z))")
        self.assert_refers("t", [], "(table t ((a (up 5))) (1))", "(table u ((c (of z x))) (x) (z))")

    def test_support(self):
        calls = [table("(table t ((a (up 9) maybe)) (1) (()) (1) (2))"), table("(table u ((c (up 5))) (1) (2))")]
        self.assertEqual(support_of("(refers t (a) u (c))", "t", *calls), 3)

    def test_follows_the_other_tables_rows(self):
        calls = [table("(table t ((a (up 9))) (1))"), table("(table u ((c (up 5))) (1) (2))")]
        self.assertIn("(refers t (a) u (c))", found_texts("t", *calls))
        self.assertNotIn("(refers t (a) u (c))", found_texts("t", *calls, rows("u", "(2)")))


class Answers(unittest.TestCase):
    T = table("(table t ((a (up 5))) (1) (1) (2))")

    def test_nothing_found(self):
        nothing = table("(table t ((w (of x y))) (x) (y) (x))")
        self.assertEqual(last(nothing, found("t")), [0])
        self.assertEqual(run(nothing, told(0, "t"), support(0, "t"))[1:], [[-4], [-4]])

    def test_no_such_claim(self):
        count = last(self.T, found("t"))[0]
        self.assertEqual(count, 2)
        self.assertEqual(text_of(last(self.T, told(count - 1, "t"))), rising("a"))
        self.assertEqual(last(self.T, support(count - 1, "t")), [2])
        for k in (-1, -2, -count, count, count + 1, 10 ** 18, -10 ** 18):
            self.assertEqual(last(self.T, told(k, "t")), [-4], k)
            self.assertEqual(last(self.T, support(k, "t")), [-4], k)

    def test_no_such_table(self):
        for name in ("", "u", "T", "t ", "\nt", "t?", [200], [116] * 6000):
            for k in (0, -1, 99):
                self.assertEqual(run(self.T, found(name), told(k, name), support(k, name))[1:], [[-3]] * 3, name)
        self.assertEqual(run(found("t"), told(0, "t"), support(0, "t")), [[-3]] * 3)

    def test_object_as_it_was(self):
        before = run(self.T, found("t"), holds("(key t (a))"))[1:]
        asking = [found("u"), told(99, "t"), support(-1, "t"), told(0, "u"), told(0, "t"), support(0, "t")]
        self.assertEqual(run(self.T, *asking, found("t"), holds("(key t (a))"))[7:], before)


def long_tables(name_cut, column_cut, wide):
    """Tables of which much is found: in t any two columns fix all others, two rows are alike, all refer to all.

    Names have 20 bytes, but for u's, which has name_cut less, and its first column's, which has column_cut less;
    in `wide` columns of t the greatest number has two digits. So the text gets longer byte by byte.
    """
    names = [letter * 20 for letter in "abcdef"]
    cells = [[x, y] + [(x + k * y) % 5 for k in (1, 2, 3, 4)] for x in range(5) for y in range(5)]
    cells = [[10 if n == 4 and place < wide else n for place, n in enumerate(row)] for row in cells + cells[:1]]
    all_numbers = [[n] * 6 for n in (0, 1, 2, 3, 4, 10)]
    return [told_numbers("t" * 20, names, cells),
            told_numbers("u" * (20 - name_cut), ["g" * (20 - column_cut)] + names[1:], all_numbers),
            told_numbers("v" * 20, names[:4], [row[:4] for row in all_numbers])]


def told_numbers(name, names, cells):
    columns = " ".join(f"({column} (up 11))" for column in names)
    told_rows = " ".join("(" + " ".join(str(n) for n in row) + ")" for row in cells)
    return table(f"(table {name} ({columns}) {told_rows})")


class TooLong(unittest.TestCase):
    NAME = "t" * 20

    def size(self, calls):
        """How long the text is that found would answer, taken from told."""
        total = 0
        k = 0
        while True:
            answer = last(*calls, told(k, self.NAME))
            if answer == [-4]:
                return total + k - 1
            total += len(answer)
            k += 1

    def test_12000_bytes(self):
        calls = long_tables(14, 3, 1)
        self.assertEqual(self.size(calls), 12000)
        answer = last(*calls, found(self.NAME))
        self.assertEqual(len(answer), 12001)
        self.assertEqual(answer[0], 6 + 60 + 60)

    def test_12001_bytes(self):
        calls = long_tables(14, 3, 2)
        self.assertEqual(self.size(calls), 12001)
        self.assertEqual(last(*calls, found(self.NAME)), [-8])

    def test_told_and_support_are_not_refused(self):
        calls = long_tables(0, 0, 0)
        self.assertEqual(last(*calls, found(self.NAME)), [-8])
        self.assertTrue(text_of(last(*calls, told(0, self.NAME))).startswith("(each"))
        self.assertEqual(last(*calls, support(0, self.NAME)), [26])
        self.assertEqual(last(*calls, told(126, self.NAME)), [-4])
        self.assertEqual(last(*calls, found(self.NAME), holds(f"(key {self.NAME} ())")), [0, 325])
