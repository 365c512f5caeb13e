"""The calls plan, core, needed and who."""

import unittest

from tests.support import (ANN, BATCH, BOB, CHECK, CID, FILL, GREATEST, LEAST, MIX, PACK, absent, ask, core, free, last,
                           load, needed, plan, sign, who)

SIGNED = [sign(MIX, ANN), sign(FILL, ANN), sign(CHECK, BOB), sign(PACK, CID)]


class Plan(unittest.TestCase):
    def test_nothing_signed(self):
        self.assertEqual(last(BATCH, plan()), [4, MIX, ANN, FILL, ANN, CHECK, BOB, PACK, ANN])

    def test_some_signed(self):
        self.assertEqual(last(BATCH, SIGNED[3], plan()), [3, MIX, ANN, FILL, ANN, CHECK, BOB])
        self.assertEqual(last(BATCH, sign(MIX, BOB), plan()), [3, FILL, BOB, CHECK, CID, PACK, ANN])

    def test_all_signed(self):
        self.assertEqual(last(BATCH, *SIGNED, plan()), [0])

    def test_no_steps(self):
        self.assertEqual(last(load(""), plan()), [0])

    def test_no_end(self):
        self.assertEqual(last(BATCH, absent(BOB, 1), absent(CID, 1), plan()), [-4])
        self.assertEqual(last(BATCH, sign(MIX, ANN), absent(ANN, 1), plan()), [-4])

    def test_absent(self):
        self.assertEqual(last(BATCH, absent(ANN, 1), plan()), [4, MIX, BOB, FILL, BOB, CHECK, CID, PACK, CID])
        self.assertEqual(last(BATCH, absent(BOB, 1), plan()), [4, MIX, ANN, FILL, ANN, CHECK, CID, PACK, ANN])

    def test_first_of_many_ways(self):
        self.assertEqual(last(free(7, 7), plan()), [7, 0, 0, 1, 0, 2, 0, 3, 0, 4, 0, 5, 0, 6, 0])

    def test_earlier_step_has_the_least_person(self):
        text = load("role a\nrole b\nperson p b a\nperson q a\nperson r b\nmost p 1\n"
                    "step s by a\nstep t by a b\nstep u by b\n")
        self.assertEqual(last(text, plan()), [3, 0, 0, 1, 1, 2, 2])

    def test_least_person_that_leads_to_no_end_is_passed_over(self):
        text = load("role a\nrole b\nperson p a b\nperson q a\nmost p 1\nstep s by a\nstep t by b\n")
        self.assertEqual(last(text, plan()), [2, 0, 1, 1, 0])

    def test_unlike_binds(self):
        self.assertEqual(last(free(3, 3, "unlike s0 s1\nunlike s1 s2\n"), plan()), [3, 0, 0, 1, 1, 2, 0])
        self.assertEqual(last(free(3, 3, "unlike s0 s1\nunlike s1 s2\nunlike s2 s0\n"), plan()),
                         [3, 0, 0, 1, 1, 2, 2])

    def test_alike_binds(self):
        text = load("role a\nrole b\nperson p a\nperson q a b\nstep s by a\nstep t by a\nstep u by b\nalike s u\n")
        self.assertEqual(last(text, plan()), [3, 0, 1, 1, 0, 2, 1])

    def test_alike_in_a_chain_binds(self):
        text = load("role a\nrole b\nperson p a\nperson q a b\nstep s by a\nstep t by a\nstep u by b\n"
                    "alike s t\nalike u t\n")
        self.assertEqual(last(text, plan()), [3, 0, 1, 1, 1, 2, 1])

    def test_most_binds(self):
        self.assertEqual(last(free(3, 5, "most p0 2\nmost p1 1\n"), plan()), [5, 0, 0, 1, 0, 2, 1, 3, 2, 4, 2])

    def test_most_of_alike_steps_binds(self):
        self.assertEqual(last(free(2, 3, "most p0 1\nalike s0 s1\n"), plan()), [3, 0, 1, 1, 1, 2, 0])

    def test_signed_steps_count_for_most(self):
        self.assertEqual(last(free(2, 3, "most p0 2\n"), sign(2, 0), plan()), [2, 0, 0, 1, 1])
        self.assertEqual(last(free(2, 3, "most p0 1\n"), sign(2, 0), plan()), [2, 0, 1, 1, 1])

    def test_signed_steps_bind_unlike_and_alike(self):
        self.assertEqual(last(free(3, 3, "unlike s2 s0\nalike s1 s2\n"), sign(2, 0), plan()), [2, 0, 1, 1, 0])

    def test_order_of_signing_does_not_matter(self):
        self.assertEqual(last(free(2, 2, "after s0 s1\nunlike s0 s1\n"), plan()), [2, 0, 0, 1, 1])


class Core(unittest.TestCase):
    def test_where_it_can_be_ended(self):
        self.assertEqual(last(BATCH, core()), [-4])
        self.assertEqual(last(BATCH, *SIGNED[:2], core()), [-4])
        self.assertEqual(last(BATCH, *SIGNED, core()), [-4])
        self.assertEqual(last(BATCH, *SIGNED, absent(ANN, 1), absent(BOB, 1), core()), [-4])
        self.assertEqual(last(load(""), core()), [-4])

    def test_one_step(self):
        self.assertEqual(last(BATCH, absent(BOB, 1), absent(CID, 1), core()), [1, CHECK])

    def test_first_of_several(self):
        self.assertEqual(last(free(2, 3), absent(0, 1), absent(1, 1), core()), [1, 0])
        self.assertEqual(last(free(2, 4, "unlike s2 s3\nunlike s1 s3\n"), absent(0, 1), core()), [2, 1, 3])

    def test_fewest_ahead_of_first(self):
        text = load("role a\nrole b\nperson p a\nperson q a b\nstep s by a\nstep t by a\nstep u by b\nunlike s t\n")
        self.assertEqual(last(text, absent(1, 1), core()), [1, 2])

    def test_signed_step_binds_one_step(self):
        self.assertEqual(last(BATCH, sign(MIX, ANN), absent(ANN, 1), core()), [1, FILL])
        self.assertEqual(last(free(2, 3, "unlike s0 s2\n"), sign(0, 0), absent(1, 1), core()), [1, 2])

    def test_signed_steps_are_left_out(self):
        self.assertEqual(last(free(2, 3), sign(0, 0), absent(0, 1), absent(1, 1), core()), [1, 1])

    def test_unlike(self):
        triangle = "unlike s1 s2\nunlike s2 s4\nunlike s1 s4\n"
        self.assertEqual(last(free(3, 5, triangle), absent(2, 1), core()), [3, 1, 2, 4])

    def test_alike(self):
        text = load("role a\nrole b\nperson p a\nperson q b\nperson r a b\n"
                    "step s by a b\nstep t by a\nstep u by a\nstep v by b\nalike v t\n")
        self.assertEqual(last(text, absent(2, 1), core()), [2, 1, 3])

    def test_alike_through_a_third_step(self):
        text = load("role a\nrole b\nperson p a\nperson q b\nperson r a b\n"
                    "step s by a\nstep t by a b\nstep u by b\nalike s t\nalike t u\n")
        self.assertEqual(last(text, absent(2, 1), core()), [3, 0, 1, 2])

    def test_most(self):
        self.assertEqual(last(free(2, 4, "most p0 2\n"), absent(1, 1), core()), [3, 0, 1, 2])
        self.assertEqual(last(free(7, 7, "".join(f"most p{k} 1\n" for k in range(7))), absent(3, 1), core()),
                         [7, 0, 1, 2, 3, 4, 5, 6])

    def test_signed_steps_count_for_most(self):
        self.assertEqual(last(free(2, 4, "most p0 2\n"), sign(1, 0), absent(1, 1), core()), [2, 0, 2])
        self.assertEqual(last(free(2, 4, "most p0 1\n"), sign(1, 0), absent(1, 1), core()), [1, 0])

    def test_core_by_core(self):
        self.assertEqual(ask(free(2, 2, "unlike s0 s1\n"), absent(0, 1), core(), absent(1, 1), core(),
                             absent(0, 0), absent(1, 0), core()),
                         [[1, 2, 2], [0], [2, 0, 1], [0], [1, 0], [0], [1], [-4]])


class Needed(unittest.TestCase):
    def test_nothing_signed(self):
        self.assertEqual(last(BATCH, needed()), [2, ANN, BOB])

    def test_some_signed(self):
        self.assertEqual(last(BATCH, *SIGNED[:1], needed()), [1, ANN])
        self.assertEqual(last(BATCH, *SIGNED[:2], needed()), [2, BOB, CID])
        self.assertEqual(last(BATCH, *SIGNED[:3], needed()), [3, ANN, BOB, CID])

    def test_all_signed(self):
        self.assertEqual(last(BATCH, *SIGNED, needed()), [-4])
        self.assertEqual(last(BATCH, *SIGNED, absent(ANN, 1), needed()), [-4])
        self.assertEqual(last(load("person ann"), needed()), [-4])

    def test_no_end(self):
        self.assertEqual(last(BATCH, absent(BOB, 1), absent(CID, 1), needed()), [0])
        self.assertEqual(last(BATCH, sign(MIX, ANN), absent(ANN, 1), needed()), [0])

    def test_without_the_absent(self):
        self.assertEqual(last(BATCH, absent(ANN, 1), needed()), [1, BOB])
        self.assertEqual(last(free(4, 2), absent(0, 1), absent(2, 1), needed()), [2, 1, 3])

    def test_all_persons(self):
        self.assertEqual(last(free(7, 1), needed()), [7, 0, 1, 2, 3, 4, 5, 6])

    def test_fewest_ahead_of_first(self):
        text = load("role a\nrole b\nperson p a\nperson q a\nperson r b\nstep s by a\nstep t by b\n")
        self.assertEqual(last(text, needed()), [1, 2])

    def test_first_of_as_few(self):
        text = load("role a\nrole b\nperson p a\nperson q b\nperson r b\nperson s a\nstep s by b\nstep t by a\n")
        self.assertEqual(last(text, needed()), [2, 0, 3])

    def test_unlike_binds(self):
        self.assertEqual(last(free(3, 3, "unlike s0 s1\nunlike s1 s2\n"), needed()), [2, 0, 1])
        self.assertEqual(last(free(3, 3, "unlike s0 s1\nunlike s1 s2\nunlike s0 s2\n"), needed()), [1, 0])

    def test_alike_binds(self):
        text = load("role a\nrole b\nperson p a\nperson q a b\nperson r b\nstep s by a\nstep t by b\nalike s t\n")
        self.assertEqual(last(text, needed()), [1, 1])

    def test_most_binds(self):
        self.assertEqual(last(free(3, 4, "most p0 1\nmost p1 2\nmost p2 3\n"), needed()), [1, 2])
        self.assertEqual(last(free(3, 3, "most p0 1\nmost p1 2\nmost p2 3\n"), needed()), [2, 0, 2])

    def test_persons_without_a_part(self):
        self.assertEqual(last(load("role a\nperson o\nperson p a\nperson q a\nstep s by a\nmost q 0\n"), needed()),
                         [1, 1])

    def test_asking_makes_nobody_absent(self):
        self.assertEqual(ask(free(2, 1), needed(), needed(), who(0)), [[1, 2, 1], [2, 0, 1], [2, 0, 1], [2, 0, 1]])


class Who(unittest.TestCase):
    def test_no_step(self):
        for number in (-1, 4, LEAST, GREATEST):
            self.assertEqual(last(BATCH, who(number)), [-1])
        self.assertEqual(last(load("role op\nperson ann op"), who(0)), [-1])

    def test_nothing_signed(self):
        self.assertEqual(ask(BATCH, who(MIX), who(FILL), who(CHECK), who(PACK)),
                         [[2, 4, 4], [2, ANN, BOB], [0], [0], [3, ANN, BOB, CID]])

    def test_some_signed(self):
        self.assertEqual(ask(BATCH, sign(MIX, BOB), who(MIX), who(FILL), who(CHECK), who(PACK)),
                         [[2, 4, 4], [0], [0], [1, BOB], [0], [2, ANN, CID]])
        self.assertEqual(ask(BATCH, *SIGNED[:2], who(CHECK)), [[2, 4, 4], [0], [1], [2, BOB, CID]])

    def test_all_signed(self):
        self.assertEqual(ask(BATCH, *SIGNED, who(MIX), who(FILL), who(CHECK), who(PACK))[5:], [[0], [0], [0], [0]])

    def test_absent(self):
        self.assertEqual(last(BATCH, absent(CID, 1), who(PACK)), [2, ANN, BOB])
        self.assertEqual(last(BATCH, absent(ANN, 1), who(PACK)), [1, CID])

    def test_no_end(self):
        self.assertEqual(last(BATCH, absent(BOB, 1), absent(CID, 1), who(PACK)), [0])

    def test_unlike_binds(self):
        self.assertEqual(last(free(4, 2, "unlike s0 s1\n"), sign(1, 2), who(0)), [3, 0, 1, 3])

    def test_alike_binds(self):
        self.assertEqual(last(free(4, 2, "alike s0 s1\n"), sign(1, 2), who(0)), [1, 2])

    def test_most_binds(self):
        self.assertEqual(last(free(4, 2, "most p0 0\nmost p2 1\n"), sign(1, 2), who(0)), [2, 1, 3])

    def test_only_who_leaves_an_end(self):
        text = load("role a\nrole b\nperson p a b\nperson q a\nperson r a\nmost p 1\nstep s by a\nstep t by b\n")
        self.assertEqual(ask(text, who(0), who(1), sign(1, 0), who(0)),
                         [[2, 3, 2], [2, 1, 2], [1, 0], [0], [2, 1, 2]])

    def test_asking_signs_nothing(self):
        self.assertEqual(ask(free(2, 2), who(0), who(0), sign(1, 1), who(0)),
                         [[1, 2, 2], [2, 0, 1], [2, 0, 1], [0], [2, 0, 1]])


if __name__ == "__main__":
    unittest.main()
