"""The interface: how calls are laid out, how answers are given back, and that nothing is kept or changed."""

import random
import unittest

from tableclaims.claims import answers
from tests.lines import cover, fixed, follows, found, holds, keys, parted, rows, run, still, support, table, told

T = "(table t ((a (up 5))) (1) (2))"
# Of each call one that is answered and, but for table, one that is refused.
ALL_CALLS = [table(T), rows("t", "(3) (4)"), found("t"), told(0, "t"), support(0, "t"), holds("(key t (a))"),
             still("t", "(3)"), keys("t"), fixed("t", "a"), cover("t"), follows(2, "t"), rows("t", "(9)"), found("u"),
             told(-1, "t"), support(9, "t"), holds("("), still("t", "(9)"), keys("u"), fixed("t", "q"), cover("u"),
             follows(0, "t")]


class Interface(unittest.TestCase):
    def test_layout(self):
        text = list(T.encode())
        key = list(b"(key t (a))")
        calls = ([0, len(text)] + text + [1, 1, 116, 7, 40, 51, 41, 32, 40, 52, 41] + [3, 2, 1, 116] + [4, 2, 1, 116]
                 + [5, 11] + key + [2, 0] + [3, -5, 1, 116])
        self.assertEqual(answers(calls), [2, 1, 2, 1, 2, 11] + key + [1, 2, 2, 1, 0, 1, -3, 1, -4])

    def test_layout_of_the_later_calls(self):
        text = list(T.encode())
        calls = ([0, len(text)] + text + [6, 1, 116, 7, 40, 51, 41, 32, 40, 50, 41] + [7, 1, 116] + [8, 1, 116, 1, 97]
                 + [8, 1, 116, 0] + [9, 1, 116] + [10, 2, 1, 116] + [10, -5, 1, 116] + [6, 0, 0] + [10, 0, 1, 116])
        key = list(b"(key t (a))")
        # Found are a's range, that it rises, and the key.
        self.assertEqual(answers(calls), [2, 1, 2, 2, 1, 2, 3, 1, 1, 0, 2, 1, 0, 1, 0, 12, 1] + key
                         + [1, 0, 1, -4, 1, -3, 1, -6])

    def test_all_calls_in_one_list(self):
        answered = run(*ALL_CALLS)
        self.assertEqual([len(answer) for answer in answered],
                         [2, 1, len(answered[2]), len(answered[3]), 1, 2, 4, 3, 2, 12, 1] + [1] * 10)
        self.assertEqual([answer[0] for answer in answered[11:]], [-4, -3, -4, -4, -1, -4, -3, -5, -3, -6])

    def test_in_any_order(self):
        """But for table and rows no call changes what another one answers, wherever it stands."""
        others = ALL_CALLS[2:]
        wanted = dict(zip(map(tuple, others), run(*ALL_CALLS)[2:]))
        for seed in range(20):
            shuffled = random.Random(seed).sample(others, len(others))
            answered = run(*ALL_CALLS[:2], *shuffled)[2:]
            self.assertEqual(answered, [wanted[tuple(call)] for call in shuffled])
            # Ahead of the table there is none: all but table's and holds' refusals are -3.
            answered = run(*shuffled, *ALL_CALLS[:2])
            self.assertEqual(answered[:-2], [[-1] if call == holds("(") else [-3] for call in shuffled])
            self.assertEqual(answered[-2:], [[1, 2], [2]])

    def test_found_is_counted_with_its_text(self):
        answer = answers(table("(table t ((a (up 5))))") + found("t"))
        self.assertEqual(answer, [2, 1, 0, 11, 1] + list(b"(key t ())"))

    def test_empty_texts_and_names(self):
        calls = table("") + rows("", "") + found("") + told(0, "") + support(0, "") + holds("")
        self.assertEqual(answers(calls), [1, -1, 1, -3, 1, -3, 1, -3, 1, -3, 1, -1])
        calls = still("", "") + keys("") + fixed("", "") + cover("") + follows(0, "")
        self.assertEqual(answers(calls), [1, -3] * 5)

    def test_plain_whole_numbers(self):
        answer = answers(sum(ALL_CALLS, []) + holds("(key t (a))") + holds("(key t ())"))
        self.assertIs(type(answer), list)
        self.assertEqual({type(number) for number in answer}, {int})

    def test_what_is_handed_in_is_not_changed(self):
        class Untouchable(list):
            def refuse(self, *values):
                raise AssertionError("changed")

            __setitem__ = __delitem__ = __iadd__ = __imul__ = refuse
            append = extend = insert = pop = remove = clear = sort = reverse = refuse

        calls = sum(ALL_CALLS, [])
        handed = Untouchable(calls)
        answered = parted(answers(handed))
        self.assertEqual(len(answered), len(ALL_CALLS))
        self.assertEqual(list(handed), calls)

    def test_nothing_is_kept(self):
        calls = table(T) + rows("t", "(3)") + found("t") + holds("(key t (a))")
        once = answers(calls)
        self.assertEqual(answers(calls), once)
        self.assertEqual(answers(found("t")), [1, -3])
        self.assertEqual(answers(table(T)), [2, 1, 2])

    def test_two_lists_share_nothing(self):
        all_calls = sum(ALL_CALLS, [])
        other = table("(table t ((b (of x y))) (x) (x))") + keys("t") + fixed("t", "b") + cover("t") + still("t", "(y)")
        first, second = answers(all_calls), answers(other)
        self.assertEqual(answers(all_calls), first)
        self.assertEqual(answers(other), second)
        for call in (found, keys, cover):
            self.assertEqual(answers(call("t")), [1, -3])
        self.assertEqual(answers(still("t", "") + fixed("t", "") + follows(0, "t")), [1, -3] * 3)

    def test_answers_are_lists_of_their_own(self):
        first = answers(table(T) + found("t"))
        kept = list(first)
        first.clear()
        self.assertEqual(answers(table(T) + found("t")), kept)

    def test_forty_calls(self):
        forty = table(T) + holds("(key t (a))") * 39
        self.assertEqual(answers(forty), [2, 1, 2] + [2, 1, 0] * 39)

    def test_long_lists(self):
        blanks = [32] * 6000
        calls = [0, 6000] + blanks + [5, 6000] + blanks + [2, 4000] + blanks[:4000]
        self.assertEqual(answers(calls), [1, -1, 1, -1, 1, -3])
