"""What holds over the whole program: entries of both kinds, and one record behind another."""

import random
import unittest

from batchrecord.record import answers
from tests.support import (ANN, BATCH, BOB, CHECK, CID, DAN, FILL, GREATEST, LEAST, MIX, PACK, absent, amend, ask, core,
                           free, history, load, may, names, needed, parted, plan, released, shown, sign,
                           text_answer, view, ways, who)

TEXT = "role op\nperson ann op\nperson bob op\nstep mix by op\nstep fill by op\nunlike mix fill\n"
LOADED = load(TEXT)
NAMES = [1, 2, 111, 112, 2, 3, 97, 110, 110, 1, 0, 99, 3, 98, 111, 98, 1, 0, 99,
         2, 3, 109, 105, 120, 1, 0, 4, 102, 105, 108, 108, 1, 0]


class AmongAmendments(unittest.TestCase):
    def test_signatures_and_amendments_share_their_numbers(self):
        self.assertEqual(
            ask(BATCH, sign(MIX, ANN), amend(0, BOB, b"a"), amend(0, CID, b"b"), sign(FILL, ANN), sign(PACK, CID),
                amend(4, ANN, b"c"), sign(CHECK, BOB), view(7)),
            [[2, 4, 4], [0], [1], [2], [3], [4], [5], [6],
             [7, 0, MIX, ANN, 1, 98, 1, 0, BOB, 1, 97, 1, 0, CID, 1, 98, 0, FILL, ANN, 0, 0, PACK, CID, 1, 99,
              1, 4, ANN, 1, 99, 0, CHECK, BOB, 0]])

    def test_amendments_sign_nothing(self):
        calls = [BATCH, sign(MIX, ANN), amend(0, BOB, b"a"), amend(0, CID, b"b"), amend(0, DAN, b"c")]
        self.assertEqual(
            ask(*calls, plan(), core(), needed(), who(MIX), who(FILL), who(CHECK), who(PACK), released(), ways())[5:],
            [[3, FILL, ANN, CHECK, BOB, PACK, ANN], [-4], [1, ANN], [0], [1, ANN], [0], [3, ANN, BOB, CID], [0], [6]])

    def test_amending_takes_nobodys_room(self):
        text = free(2, 2, "most p0 1\nmost p1 1\n")
        self.assertEqual(ask(text, sign(0, 0), amend(0, 1, b"a"), amend(0, 1, b"b"), plan(), who(1), sign(1, 1)),
                         [[1, 2, 2], [0], [1], [2], [1, 1, 1], [1, 1], [3]])

    def test_amending_binds_neither_unlike_nor_alike(self):
        self.assertEqual(ask(free(2, 2, "unlike s0 s1\n"), sign(0, 0), amend(0, 1, b"a"), may(1, 1), sign(1, 1)),
                         [[1, 2, 2], [0], [1], [0], [2]])
        self.assertEqual(ask(free(2, 2, "alike s0 s1\n"), sign(0, 0), amend(0, 1, b"a"), may(1, 0), sign(1, 0)),
                         [[1, 2, 2], [0], [1], [0], [2]])

    def test_bars_stay(self):
        calls = [BATCH, sign(MIX, BOB), amend(0, ANN, b"a")]
        self.assertEqual(
            ask(*calls, sign(MIX, ANN), sign(CHECK, CID), sign(FILL, CID), sign(FILL, ANN), sign(FILL, BOB),
                amend(2, CID, b"b"), sign(PACK, BOB), sign(PACK, ANN))[3:],
            [[-11], [-12], [-13], [-14], [2], [3], [-14], [4]])

    def test_no_end_stays_barred(self):
        text = free(2, 3, "unlike s1 s2\n")
        self.assertEqual(ask(text, sign(0, 0), amend(0, 1, b"a"), absent(1, 1), sign(1, 0), core(), needed(), plan()),
                         [[1, 2, 3], [0], [1], [0], [-15], [2, 1, 2], [0], [-4]])

    def test_absence_of_the_one_who_amended(self):
        self.assertEqual(
            ask(BATCH, sign(MIX, ANN), amend(0, DAN, b"a"), absent(DAN, 1), absent(BOB, 1), absent(CID, 1), core(),
                absent(CID, 0), plan(), needed()),
            [[2, 4, 4], [0], [1], [1], [1], [0], [1, CHECK], [1], [3, FILL, ANN, CHECK, CID, PACK, ANN], [1, ANN]])

    def test_amending_behind_the_last_signature(self):
        calls = [LOADED, sign(0, 0), sign(1, 1), amend(1, 0, b"x"), amend(0, 1, b"y")]
        self.assertEqual(ask(*calls, plan(), core(), needed(), who(0), released(), ways(), view(4))[5:],
                         [[0], [-4], [-4], [0], [1], [1],
                          [4, 0, 0, 0, 1, 121, 0, 1, 1, 1, 120, 1, 1, 0, 1, 120, 1, 0, 1, 1, 121]])

    def test_shown_and_names_stay(self):
        self.assertEqual(ask(LOADED, sign(0, 0), amend(0, 1, b"x"), shown(), names())[3:],
                         [text_answer(TEXT), NAMES + [0]])

    def test_forty_amendments_and_all_signatures(self):
        calls = [free(7, 7)] + [sign(step, 0) for step in range(6)] + [amend(k % 6, 1, [k] * 60) for k in range(40)]
        found = ask(*calls, sign(6, 2), amend(46, 1, b""), released(), ways(), history(5), view(47))
        self.assertEqual(found[:52], [[1, 7, 7]] + [[k] for k in range(47)] + [[-3], [1], [1],
                                                                              [6, 11, 17, 23, 29, 35, 41]])
        expected = [47]
        for step, k in zip(range(6), [36, 37, 38, 39, 34, 35]):
            expected += [0, step, 0, 60] + [k] * 60
        for k in range(40):
            expected += [1, k % 6, 1, 60] + [k] * 60
        self.assertEqual(found[52], expected + [0, 6, 2, 0])


class OneRecordBehindAnother(unittest.TestCase):
    FIRST = [BATCH, sign(MIX, ANN), amend(0, BOB, b"a"), absent(BOB, 1), absent(DAN, 1)]

    def test_a_second_load_begins_anew(self):
        self.assertEqual(
            ask(*self.FIRST, LOADED, view(0), view(1), history(0), amend(0, 0, b"a"), names(), plan(), ways(),
                released(), who(0), may(0, 1), sign(1, 1), amend(0, 0, b"b"), view(2))[5:],
            [[1, 2, 2], [0], [-1], [-1], [-1], NAMES + [0], [2, 0, 0, 1, 1], [2], [0], [2, 0, 1], [0], [0], [1],
             [2, 0, 1, 1, 1, 98, 1, 0, 0, 1, 98]])

    def test_the_same_plan_again(self):
        self.assertEqual(ask(*self.FIRST, BATCH, view(1), who(MIX), sign(MIX, BOB), amend(0, DAN, b""), needed())[5:],
                         [[2, 4, 4], [-1], [2, ANN, BOB], [0], [1], [1, BOB]])

    def test_forty_amendments_anew(self):
        forty = [amend(0, 1, b"")] * 40
        calls = [LOADED, sign(0, 0), *forty, amend(0, 1, b"")]
        expected = [[1, 2, 2]] + [[k] for k in range(41)] + [[-3]]
        self.assertEqual(ask(*calls, *calls), expected + expected)

    def test_a_plan_with_fewer(self):
        self.assertEqual(ask(*self.FIRST, load(""), names(), may(0, 0), absent(0, 0), released(), ways(), plan())[5:],
                         [[0, 0, 0], [0, 0, 0, 0], [-1], [-1], [1], [1], [0]])

    def test_a_refused_load_leaves_the_record(self):
        refused = [load([256]), load([32] * 4001), load("role"), load("role a\nstep s by a")]
        calls = [LOADED, sign(0, 0), amend(0, 1, b"a"), absent(0, 1)]
        asked = [view(2), history(0), names(), who(1), ways(), released(), plan(), needed(), may(1, 0), shown()]
        stands = [[2, 0, 0, 0, 1, 97, 1, 0, 1, 1, 97], [1, 1], NAMES + [1, 0], [1, 1], [1], [0], [1, 1, 1], [1, 1],
                  [3], text_answer(TEXT)]
        self.assertEqual(ask(*calls, *refused, *asked, amend(0, 1, b"b"))[4:],
                         [[-1], [-1], [-1101], [-7]] + stands + [[2]])
        self.assertEqual(ask(*calls, *asked)[4:], stands)


class LongWays(unittest.TestCase):
    """Lists that ask as much as a list may; they must not take long, nor raise anything."""

    def test_many_ways(self):
        self.assertEqual(ask(free(7, 6), *[ways()] * 99)[1:], [[117649]] * 99)

    def test_many_steps_for_few_persons(self):
        text = free(7, 7, "".join(f"most p{k} 1\n" for k in range(7)))
        self.assertEqual(ask(text, absent(0, 1), *[core()] * 98)[2:], [[7, 0, 1, 2, 3, 4, 5, 6]] * 98)
        self.assertEqual(ask(text, *[needed()] * 99)[1:], [[1, 0]] * 99)

    def test_alike_steps_that_nobody_can_have(self):
        text = free(7, 7, "".join(f"most p{k} 2\n" for k in range(6)) + "alike s4 s5\nalike s5 s6\n")
        self.assertEqual(ask(text, absent(6, 1), *[who(0)] * 98)[2:], [[0]] * 98)
        self.assertEqual(ask(text, absent(6, 1), core()), [[1, 7, 7], [0], [3, 4, 5, 6]])

    def test_loads_of_a_pair_unlike_and_alike(self):
        text = free(7, 7, "unlike s5 s6\nalike s5 s6\n")
        self.assertEqual(ask(*[text] * 60), [[-7]] * 60)
        self.assertEqual(ask(free(7, 7, "alike s3 s4\nalike s6 s5\nalike s4 s5\nunlike s3 s6\n")), [[-7]])


def any_number(source):
    """A number that is more often near the right ones than far off."""
    return source.choice([source.randint(-1, 8), source.randint(0, 4), LEAST, GREATEST, 60, 256])


def any_call(source):
    """Some call, with numbers that are right or wrong."""
    number = source.choice([2, 2, 2, 3, 4, 5, 6, 7, 8, 8, 8, 9, 10, 11, 12, 13, 14, 1])
    if number == 8:
        text = [source.choice([0, 97, 255, 255, 256, -1, LEAST]) for each in range(source.choice([0, 1, 2, 60, 61]))]
        return amend(any_number(source), any_number(source), source.choice([text, b"ok"]))
    counts = {2: 2, 3: 2, 7: 1, 9: 1, 10: 1, 11: 2}
    return [number] + [any_number(source) for each in range(counts.get(number, 0))]


class AnyCalls(unittest.TestCase):
    def test_nothing_is_raised_and_each_call_has_its_answer(self):
        source = random.Random(5)
        texts = [LOADED, BATCH, load(""), free(7, 7, "unlike s0 s1\nalike s1 s2\nmost p0 1\n"), load("role"),
                 load([LEAST]), load("person a\nperson b")]
        for turn in range(60):
            calls = [source.choice(texts) if source.random() < 0.05 else any_call(source) for each in range(99)]
            numbers = source.choice(texts) + [number for call in calls for number in call]
            found = answers(numbers)
            self.assertEqual(len(parted(found)), 100)
            self.assertEqual({type(number) for number in found}, {int})
            self.assertEqual(answers(numbers), found)


if __name__ == "__main__":
    unittest.main()
