"""The interface: how calls are laid out, how answers are given back, and that nothing is kept or changed."""

import unittest

from tableclaims.claims import answers
from tests.lines import found, holds, rows, support, table, told

T = "(table t ((a (up 5))) (1) (2))"


class Interface(unittest.TestCase):
    def test_layout(self):
        text = list(T.encode())
        key = list(b"(key t (a))")
        calls = ([0, len(text)] + text + [1, 1, 116, 7, 40, 51, 41, 32, 40, 52, 41] + [3, 2, 1, 116] + [4, 2, 1, 116]
                 + [5, 11] + key + [2, 0] + [3, -5, 1, 116])
        self.assertEqual(answers(calls), [2, 1, 2, 1, 2, 11] + key + [1, 2, 2, 1, 0, 1, -3, 1, -4])

    def test_found_is_counted_with_its_text(self):
        answer = answers(table("(table t ((a (up 5))))") + found("t"))
        self.assertEqual(answer, [2, 1, 0, 11, 1] + list(b"(key t ())"))

    def test_empty_texts_and_names(self):
        calls = table("") + rows("", "") + found("") + told(0, "") + support(0, "") + holds("")
        self.assertEqual(answers(calls), [1, -1, 1, -3, 1, -3, 1, -3, 1, -3, 1, -1])

    def test_plain_whole_numbers(self):
        calls = table(T) + found("t") + told(0, "t") + support(0, "t") + holds("(key t (a))") + holds("(key t ())")
        answer = answers(calls)
        self.assertIs(type(answer), list)
        self.assertEqual({type(number) for number in answer}, {int})

    def test_what_is_handed_in_is_not_changed(self):
        class Untouchable(list):
            def refuse(self, *values):
                raise AssertionError("changed")

            __setitem__ = __delitem__ = __iadd__ = __imul__ = refuse
            append = extend = insert = pop = remove = clear = sort = reverse = refuse

        calls = (table(T) + rows("t", "(3)") + rows("t", "(9)") + found("t") + told(0, "t") + told(-1, "t")
                 + support(0, "t") + holds("(key t ())") + holds("("))
        handed = Untouchable(calls)
        answers(handed)
        self.assertEqual(list(handed), calls)

    def test_nothing_is_kept(self):
        calls = table(T) + rows("t", "(3)") + found("t") + holds("(key t (a))")
        once = answers(calls)
        self.assertEqual(answers(calls), once)
        self.assertEqual(answers(found("t")), [1, -3])
        self.assertEqual(answers(table(T)), [2, 1, 2])

    def test_answers_are_lists_of_their_own(self):
        first = answers(table(T) + found("t"))
        kept = list(first)
        first.clear()
        self.assertEqual(answers(table(T) + found("t")), kept)

    def test_forty_calls(self):
        forty = table(T) + holds("(key t (a))") * 39
        self.assertEqual(answers(forty), [2, 1, 2] + [2, 1, 0] * 39)

    def test_long_lists(self):
        blanks = [32] * 6000
        calls = [0, 6000] + blanks + [5, 6000] + blanks + [2, 4000] + blanks[:4000]
        self.assertEqual(answers(calls), [1, -1, 1, -1, 1, -3])
