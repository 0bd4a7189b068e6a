"""Point 3 (holds): expressions, conditions, claims and their breakers."""

import unittest

from tableclaims.breakers import breakers
from tableclaims.tables import table_from
from tableclaims.trees import read_one_tree
from tests.lines import codes, found, holds, last, run, table

T = ("(table t ((n (up 100)) (a (up 10) maybe) (w (of x y z) maybe) (v (of x y))) "
     "(5 1 x x) (3 () y x) (5 1 () y) (8 9 x y))")
U = "(table u ((k (up 100)) (h (of x y) maybe)) (5 x) (1 ()) (3 y) (8 y))"
EMPTY = "(table e ((a (up 5)) (b (of x))))"
OBJECT = (table(T), table(U), table(EMPTY))


def asked(claim):
    return last(*OBJECT, holds(claim))


def rows_broken(claim):
    """The breakers themselves, checked against how many holds tells."""
    tables = [table_from(read_one_tree(codes(text))) for text in (T, U, EMPTY)]
    sets = breakers(read_one_tree(codes(claim)), tables)
    if asked(claim) != [0 if sets else 1, len(sets)]:
        raise AssertionError(claim)
    return sets


class Conditions(unittest.TestCase):
    def assert_rows(self, condition, numbers):
        """The rows of t for which the condition is so."""
        broken = rows_broken(f"(each t {condition})")
        self.assertEqual([n for n in range(4) if (n,) not in broken], numbers, condition)

    def test_less(self):
        self.assert_rows("(less (col n) 5)", [1])
        self.assert_rows("(less 4 (col n))", [0, 2, 3])
        self.assert_rows("(less 1 (col a))", [3])
        self.assert_rows("(less (col a) (col n))", [0, 2])
        self.assert_rows("(less (col v) (col n))", [])
        self.assert_rows("(less (col n) (col v))", [])
        self.assert_rows("(less (word x) (word y))", [])
        self.assert_rows("(less 0 1000000)", [0, 1, 2, 3])

    def test_same(self):
        self.assert_rows("(same (col n) 5)", [0, 2])
        self.assert_rows("(same (col w) (word x))", [0, 3])
        self.assert_rows("(same (col w) (col v))", [0])
        self.assert_rows("(same (col a) (col a))", [0, 2, 3])
        self.assert_rows("(same (col n) (col v))", [])
        self.assert_rows("(same (word q) (word q))", [0, 1, 2, 3])
        self.assert_rows("(same (sub 1 2) (sub 1 2))", [])

    def test_gone(self):
        self.assert_rows("(gone (col a))", [1])
        self.assert_rows("(gone (col w))", [2])
        self.assert_rows("(gone (col n))", [])
        self.assert_rows("(gone 0)", [])
        self.assert_rows("(gone (word x))", [])

    def test_sums_and_differences(self):
        self.assert_rows("(same (add (col n) (col a)) 6)", [0, 2])
        self.assert_rows("(gone (add (col n) (col a)))", [1])
        self.assert_rows("(gone (add (col a) (col n)))", [1])
        self.assert_rows("(gone (add (col n) (col v)))", [0, 1, 2, 3])
        self.assert_rows("(gone (sub (word x) 1))", [0, 1, 2, 3])
        self.assert_rows("(gone (sub (col n) (col a)))", [1, 3])
        self.assert_rows("(same (sub (col n) 5) 0)", [0, 2])
        self.assert_rows("(gone (sub (col n) 5))", [1])
        self.assert_rows("(gone (add 1 (sub (col n) 5)))", [1])
        self.assert_rows("(same (sub 9 (sub 5 3)) 7)", [0, 1, 2, 3])
        self.assert_rows("(less 1000000 (add 1000000 1))", [0, 1, 2, 3])

    def test_and_or_not(self):
        self.assert_rows("(and)", [0, 1, 2, 3])
        self.assert_rows("(or)", [])
        self.assert_rows("(not (and))", [])
        self.assert_rows("(not (less (col a) 5))", [1, 3])
        self.assert_rows("(and (same (col n) 5) (gone (col w)))", [2])
        self.assert_rows("(or (gone (col a)) (gone (col w)) (same (col a) 9))", [1, 2, 3])
        self.assert_rows("(and (or (same (col n) 3)) (not (or)))", [1])

    def test_nested_forty_deep(self):
        self.assertEqual(asked("(each t " + "(not " * 38 + "(and)" + ")" * 39), [1, 0])
        self.assertEqual(asked("(each t " + "(not " * 39 + "(and)" + ")" * 40), [-1])
        self.assertEqual(asked("(each t (less 0 " + "(add 1 " * 38 + "1" + ")" * 40), [1, 0])


class Claims(unittest.TestCase):
    def assert_broken(self, claim, sets):
        self.assertEqual(rows_broken(claim), sets, claim)

    def test_each(self):
        self.assert_broken("(each t (same (col n) 5))", [(1,), (3,)])
        self.assert_broken("(each e (or))", [])

    def test_any(self):
        self.assert_broken("(any t (same (col n) 3))", [])
        self.assert_broken("(any t (same (col n) 4))", [()])
        self.assert_broken("(any e (and))", [()])

    def test_pairs(self):
        self.assert_broken("(pairs t (less (one n) (two n)))", [(0, 1), (0, 2)])
        self.assert_broken("(pairs t (or))", [(0, 1), (0, 2), (0, 3), (1, 2), (1, 3), (2, 3)])
        self.assert_broken("(pairs t (not (same (one a) (two a))))", [(0, 2)])
        self.assert_broken("(pairs t (not (less (add (two n) 1) (one n))))", [(0, 1)])
        self.assert_broken("(pairs e (or))", [])

    def test_next(self):
        self.assert_broken("(next t (less (one n) (two n)))", [(0, 1)])
        self.assert_broken("(next t (or))", [(0, 1), (1, 2), (2, 3)])
        self.assert_broken("(next e (or))", [])

    def test_key(self):
        self.assert_broken("(key t (n))", [(0, 2)])
        self.assert_broken("(key t (n v))", [])
        self.assert_broken("(key t (v v))", [(0, 1), (2, 3)])
        self.assert_broken("(key t ())", [(0, 1), (0, 2), (0, 3), (1, 2), (1, 3), (2, 3)])
        self.assert_broken("(key e ())", [])
        missing = table("(table m ((a (up 5) maybe)) (()) (1) (()))")
        self.assertEqual(last(missing, holds("(key m (a))")), [0, 1])

    def test_fixes(self):
        self.assert_broken("(fixes t (n) (a))", [])
        self.assert_broken("(fixes t (n) (v))", [(0, 2)])
        self.assert_broken("(fixes t (v) (n a))", [(0, 1), (2, 3)])
        self.assert_broken("(fixes t () (v))", [(0, 2), (0, 3), (1, 2), (1, 3)])
        self.assert_broken("(fixes t () ())", [])
        self.assert_broken("(fixes t (v) ())", [])
        self.assert_broken("(fixes t (v) (v))", [])
        missing = table("(table m ((a (up 5) maybe) (b (up 5) maybe)) (() ()) (1 ()) (() 1))")
        self.assertEqual(last(missing, holds("(fixes m (a) (b))")), [0, 1])

    def test_refers(self):
        self.assert_broken("(refers t (n) u (k))", [])
        self.assert_broken("(refers t (a) u (k))", [(3,)])
        self.assert_broken("(refers t (n w) u (k h))", [(3,)])
        self.assert_broken("(refers t (n v) u (k h))", [(1,), (2,)])
        self.assert_broken("(refers t (v n) u (h k))", [(1,), (2,)])
        self.assert_broken("(refers t (a) t (n))", [(0,), (2,), (3,)])
        self.assert_broken("(refers t (n v) t (n v))", [])
        self.assert_broken("(refers t (v) u (k))", [(0,), (1,), (2,), (3,)])
        self.assert_broken("(refers t (n n) u (k k))", [])
        self.assert_broken("(refers t (n) e (a))", [(0,), (1,), (2,), (3,)])
        self.assert_broken("(refers e (a) t (n))", [])

    def test_groups(self):
        self.assert_broken("(groups t (n) (count) 1 1)", [(0, 2)])
        self.assert_broken("(groups t (n) (count) 2 2)", [(1,), (3,)])
        self.assert_broken("(groups t (n) (count) 1 2)", [])
        self.assert_broken("(groups t () (count) 4 4)", [])
        self.assert_broken("(groups t () (count) 5 9)", [(0, 1, 2, 3)])
        self.assert_broken("(groups t () (count) 0 3)", [(0, 1, 2, 3)])
        self.assert_broken("(groups t (v) (sum n) 8 13)", [])
        self.assert_broken("(groups t (v) (sum n) 9 13)", [(0, 1)])
        self.assert_broken("(groups t (v) (sum n) 8 12)", [(2, 3)])
        self.assert_broken("(groups t (n) (sum a) 1 8)", [(1,), (3,)])
        self.assert_broken("(groups t (n) (sum a) 0 0)", [(0, 2), (3,)])
        self.assert_broken("(groups t (w) (count) 2 1)", [(0, 3), (1,), (2,)])
        self.assert_broken("(groups e () (count) 1 1)", [])

    def test_sums_beyond_the_numbers(self):
        big = table("(table b ((n (up 1000000))) (999999) (999999))")
        self.assertEqual(last(big, holds("(groups b () (sum n) 0 1000000)")), [0, 1])

    def test_as_many_breakers_as_there_are_twos(self):
        forty = table(f"(table f ((n (up 5))) {'(1) ' * 40})")
        self.assertEqual(last(forty, holds("(key f (n))")), [0, 780])
        self.assertEqual(last(forty, holds("(next f (or))")), [0, 39])

    def test_breakers_break_alone(self):
        for claim in ("(each t (same (col n) 5))", "(pairs t (less (one n) (two n)))", "(key t (v))",
                      "(fixes t (v) (n))", "(next t (less (one n) (two n)))", "(refers t (a) t (n))",
                      "(groups t (n) (count) 2 2)"):
            tables = [table_from(read_one_tree(codes(text))) for text in (T, U, EMPTY)]
            whole = tables[0].rows
            for broken in rows_broken(claim):
                tables[0].rows = [whole[n] for n in broken]
                self.assertEqual(len(breakers(read_one_tree(codes(claim)), tables)), 1, claim)


class Refused(unittest.TestCase):
    def test_unreadable(self):
        for claim in ("", "  ", "(key t (n)", "(key t (n)))", "(key t (n)) (key t (n))", "(key t (01))", "(key t (n)) 5",
                      "(key t (n_))", [40, 9, 41]):
            self.assertEqual(asked(claim), [-1], claim)

    def test_length(self):
        claim = "(key t (n v))"
        self.assertEqual(asked(claim + " " * (700 - len(claim))), [1, 0])
        self.assertEqual(asked(claim + " " * (701 - len(claim))), [-1])
        self.assertEqual(asked(claim + " " * (6000 - len(claim))), [-1])
        self.assertEqual(asked("5" + " " * 700), [-1])

    def test_shape_of_claims(self):
        for claim in ("5", "key", "()", "(key)", "(key t)", "(keys t (n))", "(5 t (n))", "(() t (n))", "(key 5 (n))",
                      "(key (t) (n))", "(key t n)", "(key t 5)", "(key t (5))", "(key t ((n)))", "(key t (n) (n))",
                      "(fixes t (n))", "(fixes t (n) v)", "(fixes t n (v))", "(fixes t (n) (5))", "(fixes t (n) (v) (w))",
                      "(each t)", "(each t n)", "(each t 5)", "(each t (and) (and))", "(any t)", "(any t (and) (and))",
                      "(pairs t)", "(pairs t (and) (and))", "(next t ())", "(next t (and) (and))", "(each (and) t)"):
            self.assertEqual(asked(claim), [-2], claim)

    def test_shape_of_references_and_groups(self):
        for claim in ("(refers t () u ())", "(refers t (n) u ())", "(refers t (n) u (k h))", "(refers t (n v) u (k))",
                      "(refers t (n) (k))", "(refers t (n) u)", "(refers t n u k)", "(refers t (n) 5 (k))",
                      "(refers t (n) u (5))", "(refers t (5) u (k))", "(refers t (n) u (k) (k))",
                      "(groups t (n) (count) 1)", "(groups t (n) (count) 1 2 3)", "(groups t (n) count 1 2)",
                      "(groups t (n) (count n) 1 2)", "(groups t (n) (sum) 1 2)", "(groups t (n) (sum 5) 1 2)",
                      "(groups t (n) (sum n a) 1 2)", "(groups t (n) (least n) 1 2)", "(groups t (n) () 1 2)",
                      "(groups t (n) 5 1 2)", "(groups t n (count) 1 2)", "(groups t (5) (count) 1 2)",
                      "(groups t (n) (count) x 2)", "(groups t (n) (count) 1 x)", "(groups t (n) (count) 1 ())",
                      "(groups 5 (n) (count) 1 2)", "(crowds t (n) (count) 1 2)", "(() t (n) (count) 1 2)"):
            self.assertEqual(asked(claim), [-2], claim)

    def test_shape_of_conditions(self):
        for condition in ("()", "(less)", "(less 1)", "(less 1 2 3)", "(same 1)", "(same 1 2 3)", "(gone)", "(gone 1 2)",
                          "(not)", "(not (and) (and))", "(not 5)", "(and 5)", "(and (and) x)", "(or (or) (col n))",
                          "(more 1 2)", "(5)", "((and))", "(less n 5)", "(less (and) 5)", "(gone n)", "(same 1 ())",
                          "(same 1 (col))", "(same 1 (col n a))", "(same 1 (col 5))", "(same 1 (col (n)))",
                          "(same 1 (word))", "(same 1 (word 5))", "(same 1 (word x y))", "(same 1 (add 1))",
                          "(same 1 (add 1 2 3))", "(same 1 (sub n 1))", "(same 1 (sub 1 x))", "(same 1 (mul 1 2))",
                          "(same 1 (5 n))", "(same 1 (() n))"):
            self.assertEqual(asked(f"(each t {condition})"), [-2], condition)
            self.assertEqual(asked(f"(any t (or (and) {condition}))"), [-2], condition)
            self.assertEqual(asked(f"(pairs t (and {condition.replace('col', 'one')}))"), [-2], condition)

    def test_one_row_or_two(self):
        for head in ("each", "any"):
            for cell in ("(one n)", "(two n)"):
                self.assertEqual(asked(f"({head} t (gone {cell}))"), [-2])
        for head in ("pairs", "next"):
            self.assertEqual(asked(f"({head} t (gone (col n)))"), [-2])
            self.assertEqual(asked(f"({head} t (not (gone (add 1 (col n)))))"), [-2])

    def test_not_there(self):
        for claim in ("(each q (and))", "(any T (and))", "(pairs tt (and))", "(next q (and))", "(key q ())",
                      "(fixes q () ())", "(refers q (n) u (k))", "(refers t (n) q (k))", "(groups q () (count) 0 9)",
                      "(each t (gone (col q)))", "(any t (less 1 (add 1 (col k))))", "(pairs t (gone (two q)))",
                      "(next t (or (and) (same 1 (one N))))", "(key t (n q))", "(fixes t (q) (n))", "(fixes t (n) (q))",
                      "(refers t (k) u (k))", "(refers t (n) u (n))", "(refers t (k) u (n))",
                      "(groups t (q) (count) 0 9)", "(groups t (n) (sum q) 0 9)", "(groups t (n) (sum w) 0 9)",
                      "(groups t () (sum v) 0 9)", "(groups e () (sum b) 0 9)"):
            self.assertEqual(asked(claim), [-3], claim)
        self.assertEqual(last(holds("(key t ())")), [-3])

    def test_words_need_be_of_no_kind(self):
        self.assertEqual(asked("(each t (not (same (col w) (word q))))"), [1, 0])

    def test_order_of_refusals(self):
        for claim, number in (("(key q (n) 5", -1), ("(key q (n) 5)" + " " * 700, -1), ("(key q (5))", -2),
                              ("(each q (less (col q) x))", -2), ("(refers q (a) t (a b))", -2), ("(key q (n))", -3)):
            self.assertEqual(asked(claim), [number], claim)

    def test_as_it_was(self):
        before = run(*OBJECT, found("t"), found("u"))
        asking = [holds(claim) for claim in ("(key t (n", "(key t)", "(key q ())", "(key t (n))", "(key t (n v))")]
        answered = run(*OBJECT, *asking, found("t"), found("u"))
        self.assertEqual(answered[3:8], [[-1], [-2], [-3], [0, 1], [1, 0]])
        self.assertEqual(answered[8:], before[3:])
