"""How the calls stand in the one list, and the answers in the other."""

import contextlib
import io
import unittest

from batchrecord.record import answers
from tests.support import (GREATEST, LEAST, absent, amend, ask, core, history, load, may, names, needed, parted, plan,
                           released, shown, sign, text_answer, view, ways, who)

TEXT = "role op\nperson ann op\nperson bob op\nstep mix by op\nstep fill by op\nunlike mix fill\n"
LOADED = load(TEXT)


class Untouchable(list):
    """A list that fails when it is changed, if only for a while."""

    def refuse(self, *anything):
        raise AssertionError("what is handed in is changed")

    append = clear = extend = insert = pop = remove = reverse = sort = refuse
    __setitem__ = __delitem__ = __iadd__ = __imul__ = refuse


def every_call():
    """A list with each of the calls in it, some of them refused."""
    return (LOADED + shown() + sign(0, 0) + sign(0, 0) + sign(9, 9) + absent(1, 1) + plan() + core() + needed()
            + who(1) + absent(1, 0) + plan() + core() + needed() + who(1) + load("wrong") + sign(1, 1) + needed()
            + amend(0, 1, [7, 0]) + amend(0, 0, [7]) + view(3) + view(4) + history(0) + history(2) + may(0, 1)
            + may(2, 0) + released() + ways() + names())


class Framing(unittest.TestCase):
    def test_no_calls(self):
        self.assertEqual(answers([]), [])

    def test_counts_ahead_of_answers(self):
        self.assertEqual(answers([0, 0]), [3, 0, 0, 0])
        self.assertEqual(answers([0, 0, 1]), [3, 0, 0, 0, 1, 0])
        self.assertEqual(answers([1]), [1, -2])

    def test_numbers_ahead_of_rows(self):
        self.assertEqual(answers([0, 7, 114, 111, 108, 101, 32, 111, 112, 1]),
                         [3, 1, 0, 0, 9, 8, 114, 111, 108, 101, 32, 111, 112, 10])

    def test_each_call_behind_another(self):
        expected = ([3, 1, 2, 2] + [len(TEXT) + 1] + text_answer(TEXT) + [1, 0] + [1, -11] + [1, -1] + [1, 0]
                    + [1, -4] + [2, 1, 1] + [1, 0] + [1, 0] + [1, 1] + [3, 1, 1, 1] + [1, -4] + [2, 1, 1]
                    + [2, 1, 1] + [1, -1101] + [1, 1] + [1, -4] + [1, 2] + [1, -14]
                    + [17, 3, 0, 0, 0, 2, 7, 0, 0, 1, 1, 0, 1, 0, 1, 2, 7, 0] + [1, -1] + [2, 1, 2] + [1, -1] + [1, 1]
                    + [1, -1] + [1, 1] + [1, 1]
                    + [34, 1, 2, 111, 112, 2, 3, 97, 110, 110, 1, 0, 99, 3, 98, 111, 98, 1, 0, 99,
                       2, 3, 109, 105, 120, 1, 0, 4, 102, 105, 108, 108, 1, 0, 0])
        self.assertEqual(answers(every_call()), expected)

    def test_a_text_that_looks_like_calls(self):
        self.assertEqual(answers([0, 4, 1, 1, 1, 1, 1]), [1, -1101, 1, -2])
        self.assertEqual(answers([0, 3, 0, 0, 256, 0, 0, 4]), [1, -1, 3, 0, 0, 0, 1, 0])
        self.assertEqual(answers(LOADED + [2, 0, 0, 8, 0, 1, 3, 8, 0, 1, 12]), [3, 1, 2, 2, 1, 0, 1, 1, 1, 0])
        self.assertEqual(answers(LOADED + [2, 0, 0, 8, 0, 1, 0, 12]), [3, 1, 2, 2, 1, 0, 1, 1, 1, 0])
        self.assertEqual(answers(LOADED + [2, 0, 0, 8, 0, 1, 2, 12, -12, 12]), [3, 1, 2, 2, 1, 0, 1, -1, 1, 0])

    def test_ends_of_the_range(self):
        for number in (LEAST, GREATEST):
            self.assertEqual(answers(LOADED + [2, number, 0, 2, 0, number, 3, number, 0, 3, 0, number, 7, number]),
                             [3, 1, 2, 2, 1, -1, 1, -1, 1, -1, 1, -1, 1, -1])
            self.assertEqual(answers(LOADED + [2, 0, 0, 8, number, 1, 0, 8, 0, number, 0, 8, 0, 1, 1, number, 9, number,
                                               10, number, 11, number, 0, 11, 0, number]),
                             [3, 1, 2, 2, 1, 0] + [1, -1] * 7)

    def test_longest_list(self):
        calls = load([32] * 5000) + load([256] * 5000) + load("\n" * 4000) + load([10] * 1983) + shown() * 8
        self.assertEqual(len(calls), 15999)
        self.assertEqual(answers(calls), [1, -1, 1, -1, 3, 0, 0, 0, 3, 0, 0, 0] + [1, 0] * 8)

    def test_hundred_calls(self):
        calls = LOADED + plan() * 33 + who(1) * 33 + needed() * 33
        self.assertEqual(parted(answers(calls)),
                         [[1, 2, 2]] + [[2, 0, 0, 1, 1]] * 33 + [[2, 0, 1]] * 33 + [[1, 0]] * 33)

    def test_whole_numbers_in_a_list(self):
        found = answers(every_call())
        self.assertIs(type(found), list)
        self.assertEqual({type(number) for number in found}, {int})


class NoRecord(unittest.TestCase):
    CALLS = [shown(), sign(0, 0), sign(-1, 9), absent(0, 1), absent(0, 2), plan(), core(), needed(), who(0), who(-1),
             amend(0, 0, [65]), amend(0, 0, []), amend(-1, -1, [256] * 61), view(0), view(-1), view(1), history(0),
             history(-1), may(0, 0), may(-1, 9), released(), ways(), names()]

    def test_ahead_of_the_first_load(self):
        for call in self.CALLS:
            self.assertEqual(answers(call), [1, -2], call)

    def test_all_of_them_behind_one_another(self):
        self.assertEqual(ask(*self.CALLS, LOADED), [[-2]] * len(self.CALLS) + [[1, 2, 2]])

    def test_behind_refused_loads(self):
        for call in self.CALLS:
            self.assertEqual(ask(load([256]), load("x"), load("role a\nstep s by a"), call),
                             [[-1], [-1101], [-7], [-2]])


class NothingKept(unittest.TestCase):
    def test_what_is_handed_in_stays(self):
        calls = every_call()
        before = list(calls)
        answers(calls)
        self.assertEqual(calls, before)

    def test_what_is_handed_in_is_not_changed_for_a_while_either(self):
        self.assertEqual(answers(Untouchable(every_call())), answers(every_call()))

    def test_same_list_twice(self):
        calls = every_call()
        self.assertEqual(answers(calls), answers(calls))

    def test_a_new_object_for_each_list(self):
        self.assertEqual(ask(LOADED, sign(0, 0)), [[1, 2, 2], [0]])
        self.assertEqual(ask(sign(1, 1)), [[-2]])
        self.assertEqual(ask(LOADED, sign(0, 0)), [[1, 2, 2], [0]])

    def test_answers_are_the_callers_own(self):
        first = answers(every_call())
        kept = list(first)
        first.clear()
        self.assertEqual(answers(every_call()), kept)

    def test_nothing_is_printed(self):
        out, err = io.StringIO(), io.StringIO()
        with contextlib.redirect_stdout(out), contextlib.redirect_stderr(err):
            answers(every_call())
        self.assertEqual((out.getvalue(), err.getvalue()), ("", ""))


if __name__ == "__main__":
    unittest.main()
