"""Point 1 (table), and which texts are readable."""

import unittest

from tests.lines import found, holds, last, run, table

PLAIN = "(table t ((a (up 5))) (1) (2))"


def padded(text, size):
    return text + " " * (size - len(text))


def nested(depth):
    return "(" * depth + ")" * depth


def with_column(column, *rows):
    return f"(table t ({column}) {' '.join(rows)})"


class Readable(unittest.TestCase):
    def assert_unreadable(self, text):
        self.assertEqual(last(table(text)), [-1], text)

    def assert_readable(self, text):
        # Not a table, but read to its end.
        self.assertEqual(last(table(text)), [-2], text)

    def test_blanks(self):
        self.assertEqual(last(table("  (table\nt((a(up 5)))(1)\n(2 )) \n")), [1, 2])
        self.assert_readable("\n 7 \n")
        for code in (0, 9, 11, 12, 13, 28, 31, 133, 160):
            self.assert_unreadable([40, code, 41])
            self.assert_unreadable([40, 49, code, 49, 41])

    def test_one_tree(self):
        for text in ("", " ", "\n", "1 2", PLAIN + " " + PLAIN, "()()", PLAIN + " x", "0(table)"):
            self.assert_unreadable(text)

    def test_parentheses_match(self):
        for text in ("(", ")", "(()", "())", ")(", "(table t ((a (up 5)))", PLAIN + ")"):
            self.assert_unreadable(text)

    def test_depth(self):
        self.assert_readable(nested(40))
        self.assert_readable("(" + nested(39) * 3 + ")")
        self.assert_unreadable(nested(41))
        self.assert_unreadable(nested(2000))
        self.assert_unreadable("(" * 4000)

    def test_length(self):
        self.assertEqual(last(table(padded(PLAIN, 4000))), [1, 2])
        self.assert_unreadable(padded(PLAIN, 4001))
        self.assert_unreadable(padded(PLAIN, 6000))

    def test_numbers(self):
        for text in ("0", "7", "10", "999999", "1000000"):
            self.assert_readable(text)
        for text in ("1000001", "9999999", "10000000", "00", "01", "0000001", "-1", "+1", "1.0", "1a", "5-", "1" * 3999):
            self.assert_unreadable(text)

    def test_words(self):
        for text in ("a", "Z", "aA9-.", "z-", "b.", "a" * 20, "x0123456789-.abcdefg"):
            self.assert_readable(text)
        for text in ("a" * 21, "-a", ".a", "9a", "a_b", "a?b", "?", "a/b", "a%", "@", "[", "`", "{", "a:b", "a,b"):
            self.assert_unreadable(text)
        for code in (128, 170, 178, 181, 192, 255):
            self.assert_unreadable([97, code])
            self.assert_unreadable([code])
            self.assert_unreadable([49, code])


class Shape(unittest.TestCase):
    def assert_shapeless(self, text):
        self.assertEqual(last(table(text)), [-2], text)

    def test_answers(self):
        self.assertEqual(last(table(PLAIN)), [1, 2])
        self.assertEqual(last(table("(table t ((a (up 5))))")), [1, 0])
        self.assertEqual(last(table("(table t ((a (up 5) maybe) (b (of x))) (() x))")), [2, 1])

    def test_words_of_the_language_are_names_too(self):
        text = "(table table ((maybe (of maybe up)) (up (up 2) maybe)) (maybe 1) (up ()))"
        self.assertEqual(last(table(text)), [2, 2])

    def test_head_and_name(self):
        for text in ("5", "table", "()", "(table)", "(table t)", "(tables t ((a (up 5))))", "(t ((a (up 5))))",
                     "(table 5 ((a (up 5))))", "(table (t) ((a (up 5))))", "((table) t ((a (up 5))))",
                     "(table t a)", "(table t 5)", "(table t (a (up 5)))"):
            self.assert_shapeless(text)

    def test_how_many_columns(self):
        columns = [f"(c{n} (up 5))" for n in range(7)]
        self.assertEqual(last(table(f"(table t ({' '.join(columns[:1])}) (1))")), [1, 1])
        self.assertEqual(last(table(f"(table t ({' '.join(columns[:6])}) (1 1 1 1 1 1))")), [6, 1])
        self.assert_shapeless("(table t ())")
        self.assert_shapeless("(table t () ())")
        self.assert_shapeless(f"(table t ({' '.join(columns)}))")

    def test_columns(self):
        for column in ("a", "5", "()", "(a)", "(5 (up 5))", "((a) (up 5))", "(a up)", "(a 5)", "(a ())", "(a (up 5) x)",
                       "(a (up 5) 1)", "(a (up 5) (maybe))", "(a (up 5) ())", "(a (up 5) maybe maybe)"):
            self.assert_shapeless(with_column(column))
            self.assert_shapeless(with_column(f"(b (up 5)) {column} (c (of x))"))

    def test_kinds(self):
        self.assertEqual(last(table(with_column("(a (up 1))", "(0)"))), [1, 1])
        self.assertEqual(last(table(with_column("(a (up 1000000))", "(999999)"))), [1, 1])
        for kind in ("(up)", "(up 0)", "(up x)", "(up ())", "(up 5 5)", "(of)", "(of 5)", "(of x 5)", "(of (x))",
                     "(of x ())", "(down 5)", "(5 5)", "((up) 5)", "(in x y)", "(x)", "((of) x)"):
            self.assert_shapeless(with_column(f"(a {kind})"))

    def test_how_many_words(self):
        words = [f"w{n}" for n in range(11)]
        self.assertEqual(last(table(with_column("(a (of w0))", "(w0)"))), [1, 1])
        self.assertEqual(last(table(with_column(f"(a (of {' '.join(words[:10])}))", "(w9)"))), [1, 1])
        self.assert_shapeless(with_column(f"(a (of {' '.join(words)}))"))

    def test_how_many_rows(self):
        self.assertEqual(last(table(with_column("(a (up 5))", *["(1)"] * 40))), [1, 40])
        self.assert_shapeless(with_column("(a (up 5))", *["(1)"] * 41))

    def test_rows_are_lists_of_cells(self):
        for row in ("1", "x", "((1))", "((()))", "(() (x))"):
            self.assert_shapeless(with_column("(a (up 5) maybe)", row))


class Names(unittest.TestCase):
    def test_columns_named_twice(self):
        self.assertEqual(last(table("(table t ((a (up 5)) (b (up 5)) (a (of x))))")), [-3])
        self.assertEqual(last(table("(table t ((a (up 5)) (A (up 5))))")), [2, 0])

    def test_words_twice(self):
        self.assertEqual(last(table("(table t ((a (of x y x))))")), [-3])
        self.assertEqual(last(table("(table t ((a (of x y)) (b (of x y))))")), [2, 0])


class Cells(unittest.TestCase):
    def assert_wrong(self, text):
        self.assertEqual(last(table(text)), [-4], text)

    def test_a_cell_for_each_column(self):
        for row in ("()", "(1)", "(1 x x)", "(1 x ())"):
            self.assert_wrong(with_column("(a (up 5)) (b (of x))", "(1 x)", row))

    def test_numbers(self):
        self.assertEqual(last(table(with_column("(a (up 5))", "(0)", "(4)"))), [1, 2])
        for cell in ("5", "6", "x", "()"):
            self.assert_wrong(with_column("(a (up 5))", f"({cell})"))
        self.assert_wrong(with_column("(a (up 1000000))", "(1000000)"))

    def test_words(self):
        self.assertEqual(last(table(with_column("(a (of x y))", "(y)", "(x)"))), [1, 2])
        for cell in ("z", "X", "0", "of", "()"):
            self.assert_wrong(with_column("(a (of x y))", f"({cell})"))

    def test_missing(self):
        self.assertEqual(last(table(with_column("(a (up 5) maybe) (b (of x) maybe)", "(() ())"))), [2, 1])
        self.assert_wrong(with_column("(a (up 5) maybe) (b (of x))", "(() ())"))
        self.assert_wrong(with_column("(a (up 5) maybe)", "(maybe)"))


class Held(unittest.TestCase):
    def test_name_taken(self):
        self.assertEqual(run(table(PLAIN), table("(table t ((b (of x))))")), [[1, 2], [-5]])

    def test_three_at_most(self):
        calls = [table(f"(table {name} ((a (up 5))))") for name in ("t", "u", "v", "w")]
        self.assertEqual(run(*calls), [[1, 0], [1, 0], [1, 0], [-6]])
        self.assertEqual(last(*calls, found("w")), [-3])

    def test_order_of_refusals(self):
        three = [table(f"(table {name} ((a (up 5))))") for name in ("t", "u", "v")]
        ordered = [
            ("(table t ((a (of x x)) (a (up 5))) (9 (1))", -1),
            ("(table t ((a (of x x)) (a (up 5))) (9 (1)))", -2),
            ("(table t ((a (of x x)) (b (up 5))) (9))", -3),
            ("(table t ((a (up 5)) (a (up 5))) (9))", -3),
            ("(table t ((a (of x y)) (b (up 5))) (9))", -4),
            ("(table t ((a (of x y)) (b (up 5))) (x 1))", -5),
            ("(table w ((a (of x y)) (b (up 5))) (x 1))", -6),
        ]
        for text, number in ordered:
            self.assertEqual(last(*three, table(text)), [number], text)

    def test_as_it_was_after_a_refusal(self):
        before = run(table(PLAIN), found("t"), holds("(key t (a))"))
        refused = ["(", "(table u)", "(table u ((a (of x x))))", "(table u ((a (up 5))) (9))", "(table t ((a (of x))))"]
        answered = run(table(PLAIN), *[table(text) for text in refused], found("t"), holds("(key t (a))"))
        self.assertEqual(answered[1:6], [[-1], [-2], [-3], [-4], [-5]])
        self.assertEqual(answered[6:], before[1:])
        self.assertEqual(last(table(PLAIN), *[table(text) for text in refused], found("u")), [-3])
        two_more = [table("(table u ((a (up 5))))"), table("(table v ((a (up 5))))")]
        self.assertEqual(last(table(PLAIN), *[table(text) for text in refused], *two_more), [1, 0])
