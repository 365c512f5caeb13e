"""The calls sign and absent, and what bars a signature."""

import unittest

from tests.support import (ANN, BATCH, BOB, CHECK, CID, DAN, FILL, GREATEST, LEAST, MIX, PACK, absent, ask, last, load,
                           plan, sign, who)

TWO = load("role op\nperson ann op\nperson bob op\nstep mix by op\nstep check by op\nunlike check mix\n")


class Signing(unittest.TestCase):
    def test_numbers_of_entries(self):
        self.assertEqual(
            ask(BATCH, sign(PACK, CID), sign(MIX, ANN), sign(FILL, ANN), sign(CHECK, BOB)),
            [[2, 4, 4], [0], [1], [2], [3]])

    def test_refused_signatures_are_no_entries(self):
        self.assertEqual(
            ask(BATCH, sign(PACK, CID), sign(PACK, CID), sign(4, ANN), sign(FILL, ANN), sign(MIX, ANN), plan()),
            [[2, 4, 4], [0], [-11], [-1], [-12], [1], [2, FILL, ANN, CHECK, BOB]])

    def test_no_step_and_no_person(self):
        for number in (-1, 4, 7, LEAST, GREATEST):
            self.assertEqual(last(BATCH, sign(number, ANN)), [-1])
            self.assertEqual(last(BATCH, sign(MIX, number)), [-1])
            self.assertEqual(last(BATCH, sign(number, number)), [-1])

    def test_no_such_number_ahead_of_bars(self):
        self.assertEqual(last(BATCH, sign(MIX, ANN), sign(MIX, 4)), [-1])
        self.assertEqual(last(load(""), sign(0, 0)), [-1])

    def test_signed(self):
        self.assertEqual(last(BATCH, sign(MIX, ANN), sign(MIX, ANN)), [-11])
        self.assertEqual(last(BATCH, sign(MIX, ANN), sign(MIX, BOB)), [-11])

    def test_signed_ahead_of_the_other_bars(self):
        self.assertEqual(last(BATCH, sign(MIX, ANN), sign(MIX, DAN)), [-11])
        self.assertEqual(last(BATCH, sign(MIX, ANN), absent(ANN, 1), sign(MIX, ANN)), [-11])

    def test_too_early(self):
        self.assertEqual(last(BATCH, sign(FILL, ANN)), [-12])
        self.assertEqual(last(BATCH, sign(MIX, ANN), sign(CHECK, BOB)), [-12])
        self.assertEqual(last(BATCH, sign(MIX, ANN), sign(FILL, ANN), sign(CHECK, BOB)), [2])

    def test_all_steps_ahead_must_be_signed(self):
        text = load("role op\nperson ann op\nstep a by op\nstep b by op\nstep c by op\nafter c a\nafter c b\n")
        self.assertEqual(ask(text, sign(2, 0), sign(1, 0), sign(2, 0), sign(0, 0), sign(2, 0)),
                         [[1, 1, 3], [-12], [0], [-12], [1], [2]])

    def test_too_early_ahead_of_the_other_bars(self):
        self.assertEqual(last(BATCH, sign(CHECK, DAN)), [-12])
        self.assertEqual(last(BATCH, absent(BOB, 1), absent(CID, 1), sign(FILL, ANN)), [-12])

    def test_may_not_do(self):
        self.assertEqual(last(BATCH, sign(MIX, CID)), [-13])
        self.assertEqual(last(BATCH, sign(PACK, DAN)), [-13])

    def test_one_of_the_roles_is_enough(self):
        for person in (ANN, BOB, CID):
            self.assertEqual(last(BATCH, sign(PACK, person)), [0])

    def test_absent(self):
        self.assertEqual(ask(BATCH, absent(ANN, 1), sign(PACK, ANN), absent(ANN, 0), sign(PACK, ANN)),
                         [[2, 4, 4], [1], [-13], [1], [0]])

    def test_may_not_do_ahead_of_the_other_bars(self):
        self.assertEqual(last(BATCH, sign(MIX, ANN), sign(FILL, CID)), [-13])
        self.assertEqual(last(BATCH, absent(BOB, 1), absent(CID, 1), sign(PACK, DAN)), [-13])
        self.assertEqual(last(TWO, sign(0, 0), absent(0, 1), sign(1, 0)), [-13])

    def test_unlike(self):
        self.assertEqual(ask(TWO, sign(0, 0), sign(1, 0), sign(1, 1)), [[1, 2, 2], [0], [-14], [1]])
        self.assertEqual(ask(TWO, sign(1, 0), sign(0, 0), sign(0, 1)), [[1, 2, 2], [0], [-14], [1]])

    def test_alike(self):
        self.assertEqual(ask(BATCH, sign(MIX, BOB), sign(FILL, ANN), sign(FILL, BOB)),
                         [[2, 4, 4], [0], [-14], [1]])

    def test_alike_as_soon_as_one_signed_step_is_another_persons(self):
        text = load("role op\nperson ann op\nperson bob op\nstep a by op\nstep b by op\nstep c by op\n"
                    "alike c a\nalike b c\n")
        self.assertEqual(ask(text, sign(0, 1), sign(1, 0), sign(1, 1), sign(2, 0), sign(2, 1)),
                         [[1, 2, 3], [0], [-15], [1], [-14], [2]])

    def test_most(self):
        self.assertEqual(ask(BATCH, sign(MIX, BOB), sign(FILL, BOB), sign(PACK, BOB), sign(PACK, ANN)),
                         [[2, 4, 4], [0], [1], [-14], [2]])

    def test_most_of_nothing(self):
        text = load("role op\nperson ann op\nperson bob op\nstep mix by op\nmost ann 0")
        self.assertEqual(ask(text, sign(0, 0), sign(0, 1)), [[1, 2, 1], [-14], [0]])

    def test_does_not_go_where_there_is_no_end_either(self):
        self.assertEqual(last(TWO, sign(0, 0), absent(1, 1), sign(1, 0)), [-14])

    def test_no_end(self):
        text = load("role op\nrole qa\nperson ann op\nperson bob op qa\n"
                    "step mix by op\nstep check by qa\nunlike mix check\n")
        self.assertEqual(ask(text, sign(0, 1), sign(0, 0), sign(1, 1)), [[2, 2, 2], [-15], [0], [1]])

    def test_no_end_by_most(self):
        self.assertEqual(ask(BATCH, sign(PACK, BOB), sign(MIX, BOB), sign(MIX, ANN)),
                         [[2, 4, 4], [0], [-15], [1]])

    def test_no_end_far_off(self):
        text = load("role a\nrole b\nperson p a\nperson q a b\nperson r b\n"
                    "step s by a\nstep t by a b\nstep u by b\nstep v by b\n"
                    "unlike s t\nunlike t u\nalike u v\nmost r 1\n")
        self.assertEqual(ask(text, sign(0, 1), sign(1, 1), sign(1, 2), sign(0, 0), sign(2, 1), sign(3, 1)),
                         [[2, 3, 4], [0], [-14], [1], [-11], [2], [3]])
        self.assertEqual(ask(text, sign(1, 1), sign(2, 2), sign(1, 0)), [[2, 3, 4], [-15], [-15], [0]])

    def test_no_end_since_others_are_absent(self):
        self.assertEqual(ask(BATCH, absent(BOB, 1), absent(CID, 1), sign(PACK, ANN), absent(CID, 0), sign(PACK, ANN)),
                         [[2, 4, 4], [1], [0], [-15], [1], [0]])

    def test_order_does_not_matter_for_the_end(self):
        text = load("role op\nperson ann op\nperson bob op\nstep a by op\nstep b by op\nafter a b\nunlike a b\n")
        self.assertEqual(ask(text, sign(0, 0), sign(1, 0), sign(0, 1)), [[1, 2, 2], [-12], [0], [1]])

    def test_signatures_of_the_absent_stand(self):
        self.assertEqual(ask(TWO, sign(0, 0), absent(0, 1), sign(1, 1), plan()),
                         [[1, 2, 2], [0], [1], [1], [0]])


class Absent(unittest.TestCase):
    def test_no_person(self):
        for number in (-1, 4, LEAST, GREATEST):
            self.assertEqual(last(BATCH, absent(number, 1)), [-1])
            self.assertEqual(last(BATCH, absent(number, 0)), [-1])

    def test_neither_0_nor_1(self):
        for number in (-1, 2, LEAST, GREATEST):
            self.assertEqual(last(BATCH, absent(ANN, number)), [-1])
            self.assertEqual(last(BATCH, absent(number if number != 2 else 4, number)), [-1])

    def test_refusal_changes_nothing(self):
        self.assertEqual(ask(TWO, absent(0, 2), who(0), absent(0, 1), absent(0, -1), who(0), plan()),
                         [[1, 2, 2], [-1], [2, 0, 1], [0], [-1], [0], [-4]])

    def test_both_answers(self):
        self.assertEqual(ask(BATCH, absent(DAN, 1), absent(CID, 1), absent(BOB, 1)),
                         [[2, 4, 4], [1], [1], [0]])

    def test_same_person_twice(self):
        self.assertEqual(ask(BATCH, absent(CID, 1), absent(CID, 1), sign(PACK, CID), absent(CID, 0), sign(PACK, CID)),
                         [[2, 4, 4], [1], [1], [-13], [1], [0]])
        self.assertEqual(ask(BATCH, absent(BOB, 1), absent(BOB, 1), absent(BOB, 0), absent(BOB, 0)),
                         [[2, 4, 4], [1], [1], [1], [1]])

    def test_back_again(self):
        self.assertEqual(ask(TWO, absent(1, 1), plan(), absent(0, 1), absent(1, 0), absent(0, 0), plan()),
                         [[1, 2, 2], [0], [-4], [0], [0], [1], [2, 0, 0, 1, 1]])

    def test_back_where_never_absent(self):
        self.assertEqual(ask(TWO, absent(0, 0), plan()), [[1, 2, 2], [1], [2, 0, 0, 1, 1]])

    def test_all_signed(self):
        self.assertEqual(ask(TWO, sign(0, 1), sign(1, 0), absent(0, 1), absent(1, 1)),
                         [[1, 2, 2], [0], [1], [1], [1]])

    def test_no_steps(self):
        self.assertEqual(ask(load("person ann"), absent(0, 1), absent(0, 0), absent(1, 1)),
                         [[0, 1, 0], [1], [1], [-1]])


if __name__ == "__main__":
    unittest.main()
