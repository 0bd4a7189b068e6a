"""Points 7 and 8 (cover, follows), and what's fixed by what."""

import unittest

from tableclaims.following import fixed_by
from tests.lines import (cover, fixed, follows, found, found_texts, holds, keys, last, rows, run, still, support, table,
                         text_of)

FOUR = "(table t ((a (of x y z)) (b (of x y z)) (c (of x y z)) (d (of x y z))) {})"
# a and c say the same, both fix d; with b each is a key.
TWINS = FOUR.format("(x x x x) (x y x x) (y x y y) (y y y y) (z x z y) (z y z y)")
# b and d say the same; of a, b, c any two fix the third one; two rows are alike.
SQUARE = FOUR.format("(x x x x) (x y y y) (y x y x) (y y x y) (y y x y)")


def covered(text):
    answer = last(table(text), cover("t"))
    if text_of(answer[1:]).count("(key ") + text_of(answer[1:]).count("(fixes ") != answer[0]:
        raise AssertionError(answer)
    return text_of(answer[1:])


def following(text):
    """Of each found claim whether it follows, by its text."""
    texts = found_texts("t", table(text))
    return {claim: last(table(text), follows(k, "t")) for k, claim in enumerate(texts)}


class Cover(unittest.TestCase):
    def test_from_the_last_one_to_the_first(self):
        """(key t (b c)) goes before (key t (a b)) would, which then stays."""
        self.assertEqual(covered(TWINS), "(key t (a b)) (fixes t (c) (a)) (fixes t (a) (c)) (fixes t (a) (d))")

    def test_more_than_one_step(self):
        self.assertEqual(covered(SQUARE), "(fixes t (b c) (a)) (fixes t (d) (b)) (fixes t (a c) (b)) "
                                          "(fixes t (a b) (c)) (fixes t (b) (d))")

    def test_all_stay(self):
        self.assertEqual(covered(FOUR.format("(x x x x) (x y y x) (y x y x)")),
                         "(key t (a b)) (key t (a c)) (key t (b c)) (fixes t () (d))")

    def test_nothing_in_it(self):
        self.assertEqual(last(table("(table t ((a (of x y))) (x) (y) (x))"), cover("t")), [0])
        self.assertEqual(last(table("(table t ((a (up 5))) (1) (2) (1))"), cover("t")), [0])

    def test_only_keys_and_fixed_columns(self):
        calls = [table("(table t ((a (up 5) maybe)) (1) (2))"), table("(table u ((k (up 5))) (1) (2))")]
        self.assertGreater(last(*calls, found("t"))[0], 4)
        self.assertEqual(last(*calls, cover("t")), [1] + list(b"(key t (a))"))

    def test_a_key_of_no_columns(self):
        for cells in ("", "(x x x x)"):
            self.assertEqual(covered(FOUR.format(cells)), "(key t ())")

    def test_columns_that_are_always_the_same(self):
        self.assertEqual(covered(FOUR.format("(x y z x) (x y z x)")),
                         "(fixes t () (a)) (fixes t () (b)) (fixes t () (c)) (fixes t () (d))")

    def test_follows_the_rows(self):
        answered = run(table(TWINS), cover("t"), rows("t", ""), cover("t"))
        self.assertEqual((answered[1][0], answered[3]), (4, [1] + list(b"(key t ())")))

    def test_no_such_table(self):
        for name in ("", "u", "T", "t ", "\nt", "t?", [200], [116] * 6000):
            self.assertEqual(last(table(TWINS), cover(name)), [-3], name)
        self.assertEqual(last(cover("t")), [-3])

    def test_long_names(self):
        """Of six columns any two fix the others, and two rows are alike: found is too long, the cover is not."""
        name, names = "t" * 20, [letter * 20 for letter in "abcdef"]
        cells = [[x, y] + [(x + k * y) % 5 for k in (1, 2, 3, 4)] for x in range(5) for y in range(5)]
        cells += cells[:1]
        columns = " ".join(f"({column} (up 5))" for column in names)
        told_rows = " ".join("(" + " ".join(map(str, row)) + ")" for row in cells)
        others = [table(f"(table {u * 20} ({columns}) (0 0 0 0 0 0) (1 1 1 1 1 1) (2 2 2 2 2 2) (3 3 3 3 3 3) "
                        f"(4 4 4 4 4 4))") for u in "uv"]
        calls = [table(f"(table {name} ({columns}) {told_rows})"), *others]
        self.assertEqual(last(*calls, found(name)), [-8])
        answer = last(*calls, cover(name))
        self.assertEqual(text_of(answer[1:]).count("(fixes "), answer[0])
        self.assertGreaterEqual(answer[0], 6)
        answered = run(*calls, follows(6, name), follows(65, name), follows(66, name), follows(137, name),
                       follows(138, name), still(name, ""), keys(name))[3:]
        self.assertEqual(answered, [[1], [1], [-6], [-6], [-4], [138, *range(138)], [0]])


class Follows(unittest.TestCase):
    def test_keys(self):
        asked = following(TWINS)
        self.assertEqual([asked["(key t (a b))"], asked["(key t (b c))"]], [[1], [1]])
        asked = following(FOUR.format("(x x x x) (x y y x) (y x y x)"))
        self.assertEqual([asked[f"(key t ({two}))"] for two in ("a b", "a c", "b c")], [[0]] * 3)

    def test_fixed_columns(self):
        asked = following(TWINS)
        self.assertEqual([asked[f"(fixes t ({c}) ({d}))"] for c, d in ("ca", "ac", "ad", "cd")], [[0], [0], [1], [1]])

    def test_more_than_one_step(self):
        asked = following(SQUARE)
        self.assertEqual({claim: answer for claim, answer in asked.items() if answer == [0]},
                         {"(fixes t (d) (b))": [0], "(fixes t (b) (d))": [0]})
        self.assertEqual(asked["(fixes t (a c) (d))"], [1])

    def test_not_from_itself(self):
        self.assertEqual(following("(table t ((a (of x y))) (x) (y))"), {"(key t (a))": [0]})
        self.assertEqual(following("(table t ((a (of x))) (x) (x))"), {"(fixes t () (a))": [0]})
        self.assertEqual(following("(table t ((a (of x))))"), {"(key t ())": [0]})

    def test_all_others_are_looked_at_not_the_cover_alone(self):
        """Both keys follow, each from the other one, though one of them has to stay in the cover."""
        asked = following(TWINS)
        self.assertEqual([claim for claim in covered(TWINS).split(") (") if claim.startswith("(key")], ["(key t (a b)"])
        self.assertEqual(asked["(key t (a b))"], [1])

    def test_neither(self):
        calls = [table("(table t ((a (up 9) maybe) (b (up 9)) (w (of x y))) (1 1 x) (3 2 x))"),
                 table("(table u ((k (up 9))) (1) (3))")]
        for k, claim in enumerate(found_texts("t", *calls)):
            answer = last(*calls, follows(k, "t"))
            self.assertEqual(answer == [-6], claim[:5] not in ("(key ", "(fixe"), claim)
        heads = {claim.split()[0] for claim in found_texts("t", *calls)}
        self.assertEqual(heads, {"(each", "(next", "(key", "(fixes", "(refers"})

    def test_no_such_claim(self):
        count = last(table(TWINS), found("t"))[0]
        self.assertEqual(last(table(TWINS), follows(count - 1, "t")), [1])
        for k in (-1, -2, -count, count, count + 1, 10 ** 18, -10 ** 18):
            self.assertEqual(last(table(TWINS), follows(k, "t")), [-4], k)

    def test_no_such_table(self):
        for name in ("", "u", "T", "t ", "\nt", "t?", [200], [116] * 6000):
            for k in (0, 3, -1, 99):
                self.assertEqual(last(table(TWINS), follows(k, name)), [-3], name)
        self.assertEqual(last(follows(0, "t")), [-3])

    def test_order_of_refusals(self):
        none_found = table("(table t ((a (of x y))) (x) (y) (x))")
        answered = run(none_found, follows(0, "u"), follows(0, "t"), follows(-1, "t"))
        self.assertEqual(answered[1:], [[-3], [-4], [-4]])
        each_alone = table("(table t ((a (up 5))) (3) (1) (3))")
        answered = run(each_alone, follows(0, "u"), follows(0, "t"), follows(1, "t"), follows(-1, "t"))
        self.assertEqual(answered[1:], [[-3], [-6], [-4], [-4]])

    def test_follows_the_rows(self):
        answered = run(table(TWINS), follows(2, "t"), rows("t", ""), follows(0, "t"), follows(1, "t"))
        self.assertEqual(answered[1:], [[1], [0], [0], [-4]])


class AsItWas(unittest.TestCase):
    def test_nothing_is_changed(self):
        asked = [found("t"), support(2, "t"), keys("t"), fixed("t", "a"), still("t", "(x x x x)"), cover("t"),
                 follows(2, "t"), holds("(key t (a b))"), holds("(groups t () (count) 6 6)")]
        before = run(table(TWINS), *asked)[1:]
        between = [cover("t"), cover("u"), follows(2, "t"), follows(4, "t"), follows(0, "u"), follows(99, "t"),
                   follows(0, "t")]
        answered = run(table(TWINS), *between, *asked)
        self.assertEqual(answered[2:8], [[-3], [1], [0], [-3], [-4], [-6]])
        self.assertEqual(answered[8:], before)


class FixedBy(unittest.TestCase):
    """What's fixed by some columns, told of keys and fixed columns that need not be found together."""

    NAMES = ["a", "b", "c", "d"]

    def assert_fixed(self, given, names, *claims):
        self.assertEqual(sorted(fixed_by(tuple(given), list(claims), self.NAMES)), list(names))

    def test_these_columns(self):
        self.assert_fixed("", "")
        self.assert_fixed("bd", "bd")

    def test_left_sides(self):
        steps = [("fixes", "t", ("c", "a"), ("d",)), ("fixes", "t", ("b",), ("c",)), ("fixes", "t", ("a",), ("b",))]
        self.assert_fixed("a", "abcd", *steps)
        self.assert_fixed("b", "bc", *steps)
        self.assert_fixed("", "", *steps)
        self.assert_fixed("", "abcd", *steps, ("fixes", "t", (), ("a",)))

    def test_keys(self):
        key = ("key", "t", ("b", "c"))
        self.assert_fixed("bc", "abcd", key)
        self.assert_fixed("bd", "bd", key)
        self.assert_fixed("bd", "abcd", key, ("fixes", "t", ("d",), ("c",)))
        self.assert_fixed("", "abcd", ("key", "t", ()))
