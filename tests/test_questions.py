"""The calls may, released, ways and names."""

import unittest

from tests.support import (ANN, BATCH, BOB, CHECK, CID, DAN, FILL, GREATEST, LEAST, MIX, PACK, absent, amend, ask,
                           free, last, load, may, names, needed, plan, released, sign, text_answer, view, ways, who)

SIGNED = [sign(MIX, ANN), sign(FILL, ANN), sign(CHECK, BOB), sign(PACK, CID)]
TWO = free(2, 2, "unlike s1 s0\n")


class May(unittest.TestCase):
    def test_nothing(self):
        self.assertEqual(last(BATCH, may(MIX, ANN)), [0])
        self.assertEqual(last(BATCH, may(PACK, CID)), [0])
        self.assertEqual(last(BATCH, *SIGNED[:2], may(CHECK, CID)), [0])

    def test_signed(self):
        self.assertEqual(last(BATCH, sign(MIX, ANN), may(MIX, ANN)), [1])
        self.assertEqual(last(BATCH, sign(MIX, ANN), may(MIX, BOB)), [1])

    def test_signed_where_others_are_so_too(self):
        self.assertEqual(last(BATCH, sign(MIX, ANN), may(MIX, DAN)), [1])
        self.assertEqual(last(BATCH, sign(MIX, ANN), absent(ANN, 1), may(MIX, ANN)), [1])
        self.assertEqual(last(TWO, sign(0, 0), absent(1, 1), may(0, 1)), [1])
        self.assertEqual(last(free(1, 1, "most p0 1\n"), sign(0, 0), may(0, 0)), [1])

    def test_too_early(self):
        self.assertEqual(last(BATCH, may(FILL, ANN)), [2])
        self.assertEqual(last(BATCH, sign(MIX, ANN), may(CHECK, BOB)), [2])
        self.assertEqual(last(BATCH, sign(MIX, ANN), may(FILL, ANN)), [0])

    def test_too_early_where_others_are_so_too(self):
        self.assertEqual(last(BATCH, may(CHECK, DAN)), [2])
        self.assertEqual(last(BATCH, sign(MIX, BOB), may(CHECK, BOB)), [2])
        self.assertEqual(last(BATCH, absent(BOB, 1), absent(CID, 1), may(FILL, ANN)), [2])

    def test_may_not_do(self):
        self.assertEqual(last(BATCH, may(MIX, CID)), [3])
        self.assertEqual(last(BATCH, may(PACK, DAN)), [3])
        self.assertEqual(last(BATCH, absent(ANN, 1), may(MIX, ANN)), [3])

    def test_may_not_do_where_others_are_so_too(self):
        self.assertEqual(last(BATCH, sign(MIX, ANN), may(FILL, CID)), [3])
        self.assertEqual(last(TWO, sign(0, 0), absent(0, 1), may(1, 0)), [3])
        self.assertEqual(last(BATCH, absent(BOB, 1), absent(CID, 1), may(PACK, DAN)), [3])

    def test_does_not_go(self):
        self.assertEqual(last(TWO, sign(0, 0), may(1, 0)), [4])
        self.assertEqual(last(BATCH, sign(MIX, BOB), may(FILL, ANN)), [4])
        self.assertEqual(last(BATCH, sign(MIX, BOB), sign(FILL, BOB), may(PACK, BOB)), [4])
        self.assertEqual(last(free(2, 1, "most p0 0\n"), may(0, 0)), [4])

    def test_does_not_go_where_there_is_no_end_either(self):
        self.assertEqual(last(TWO, sign(0, 0), absent(1, 1), may(1, 0)), [4])

    def test_no_end(self):
        self.assertEqual(last(BATCH, sign(PACK, BOB), may(MIX, BOB)), [5])
        self.assertEqual(last(TWO, absent(1, 1), may(0, 0)), [5])
        self.assertEqual(last(BATCH, absent(BOB, 1), absent(CID, 1), may(PACK, ANN)), [5])

    def test_no_step_and_no_person(self):
        for number in (-1, 4, 7, LEAST, GREATEST):
            self.assertEqual(last(BATCH, may(number, ANN)), [-1])
            self.assertEqual(last(BATCH, may(MIX, number)), [-1])
            self.assertEqual(last(BATCH, may(number, number)), [-1])
            self.assertEqual(last(BATCH, sign(MIX, ANN), may(MIX, number)), [-1])
        self.assertEqual(last(load(""), may(0, 0)), [-1])

    def test_steps_and_persons_are_not_mixed_up(self):
        self.assertEqual(last(free(3, 1), may(0, 2)), [0])
        self.assertEqual(last(free(3, 1), may(2, 0)), [-1])
        self.assertEqual(last(free(1, 3), may(2, 0)), [0])
        self.assertEqual(last(free(1, 3), may(0, 2)), [-1])

    def test_asking_changes_nothing(self):
        self.assertEqual(
            ask(BATCH, may(MIX, ANN), may(MIX, ANN), view(1), who(MIX), released(), sign(MIX, BOB), view(1)),
            [[2, 4, 4], [0], [0], [-1], [2, ANN, BOB], [0], [0], [1, 0, MIX, BOB, 0]])

    def test_says_what_sign_says(self):
        for step in range(4):
            for person in range(4):
                asked, signed = ask(BATCH, sign(MIX, ANN), may(step, person), sign(step, person))[2:]
                self.assertEqual(signed, [-10 - asked[0]] if asked != [0] else [1])


class Released(unittest.TestCase):
    def test_nothing_signed(self):
        self.assertEqual(last(BATCH, released()), [0])

    def test_some_signed(self):
        for count in (1, 2, 3):
            self.assertEqual(last(BATCH, *SIGNED[:count], released()), [0])

    def test_all_signed(self):
        self.assertEqual(last(BATCH, *SIGNED, released()), [1])
        self.assertEqual(last(BATCH, *SIGNED, absent(ANN, 1), absent(BOB, 1), released()), [1])

    def test_no_steps(self):
        self.assertEqual(last(load(""), released()), [1])
        self.assertEqual(last(load("role op\nperson ann op\n"), released()), [1])

    def test_amendments_sign_nothing(self):
        self.assertEqual(ask(TWO, sign(0, 0), amend(0, 1, b"a"), released(), sign(1, 1), released()),
                         [[1, 2, 2], [0], [1], [0], [2], [1]])

    def test_refused_signatures_sign_nothing(self):
        self.assertEqual(ask(TWO, sign(0, 0), sign(1, 0), released()), [[1, 2, 2], [0], [-14], [0]])


class Ways(unittest.TestCase):
    def test_all_signed(self):
        self.assertEqual(last(BATCH, *SIGNED, ways()), [1])
        self.assertEqual(last(BATCH, *SIGNED, absent(ANN, 1), absent(BOB, 1), absent(CID, 1), ways()), [1])

    def test_no_steps(self):
        self.assertEqual(last(load(""), ways()), [1])
        self.assertEqual(last(load("role op\nperson ann op\n"), absent(0, 1), ways()), [1])

    def test_no_end(self):
        self.assertEqual(last(free(2, 2), absent(0, 1), absent(1, 1), ways()), [0])
        self.assertEqual(last(TWO, absent(0, 1), ways()), [0])
        self.assertEqual(last(BATCH, sign(MIX, ANN), absent(ANN, 1), ways()), [0])
        self.assertEqual(last(free(3, 4, "most p0 1\nmost p1 2\n"), absent(2, 1), ways()), [0])

    def test_nothing_binds(self):
        self.assertEqual(last(free(3, 1), ways()), [3])
        self.assertEqual(last(free(1, 3), ways()), [1])
        self.assertEqual(last(free(3, 3), ways()), [27])
        self.assertEqual(last(free(2, 6), ways()), [64])

    def test_roles_bind(self):
        text = load("role a\nrole b\nperson p a\nperson q a b\nperson r b\nperson o\n"
                    "step s by a\nstep t by b\nstep u by a b\n")
        self.assertEqual(last(text, ways()), [12])

    def test_unlike_binds(self):
        self.assertEqual(last(TWO, ways()), [2])
        self.assertEqual(last(free(3, 3, "unlike s0 s1\n"), ways()), [18])
        self.assertEqual(last(free(3, 3, "unlike s0 s1\nunlike s1 s2\n"), ways()), [12])
        self.assertEqual(last(free(3, 3, "unlike s0 s1\nunlike s1 s2\nunlike s2 s0\n"), ways()), [6])

    def test_alike_binds(self):
        self.assertEqual(last(free(3, 3, "alike s2 s0\n"), ways()), [9])
        self.assertEqual(last(free(3, 3, "alike s2 s0\nalike s0 s1\n"), ways()), [3])
        self.assertEqual(last(free(3, 4, "alike s0 s1\nalike s2 s3\nunlike s1 s3\n"), ways()), [6])

    def test_most_binds(self):
        self.assertEqual(last(free(3, 3, "most p0 1\n"), ways()), [20])
        self.assertEqual(last(free(3, 3, "most p0 0\n"), ways()), [8])
        self.assertEqual(last(free(3, 3, "most p0 1\nmost p1 1\nmost p2 1\n"), ways()), [6])
        self.assertEqual(last(free(3, 3, "most p0 2\nmost p1 2\nmost p2 2\n"), ways()), [24])

    def test_most_and_alike_bind(self):
        self.assertEqual(last(free(3, 3, "most p0 1\nalike s0 s1\n"), ways()), [6])

    def test_absent_bind(self):
        self.assertEqual(ask(free(3, 3), absent(1, 1), ways(), absent(2, 1), ways(), absent(1, 0), ways()),
                         [[1, 3, 3], [1], [8], [1], [1], [1], [8]])

    def test_signed_steps_are_not_counted(self):
        self.assertEqual(ask(free(3, 3), sign(1, 2), ways(), sign(0, 2), ways(), sign(2, 0), ways()),
                         [[1, 3, 3], [0], [9], [1], [3], [2], [1]])

    def test_signed_steps_bind(self):
        self.assertEqual(last(free(3, 3, "unlike s0 s1\n"), sign(0, 0), ways()), [6])
        self.assertEqual(last(free(3, 3, "alike s0 s1\n"), sign(0, 0), ways()), [3])
        self.assertEqual(last(free(3, 3, "most p0 1\n"), sign(0, 0), ways()), [4])
        self.assertEqual(last(free(3, 3, "most p0 2\n"), sign(0, 0), ways()), [8])

    def test_signatures_of_the_absent_bind(self):
        self.assertEqual(last(free(3, 2, "unlike s0 s1\n"), sign(0, 0), absent(0, 1), ways()), [2])

    def test_order_does_not_bind(self):
        self.assertEqual(last(free(2, 2, "after s0 s1\n"), ways()), [4])

    def test_all_kinds_together(self):
        self.assertEqual(ask(BATCH, ways(), sign(MIX, ANN), ways(), sign(FILL, ANN), ways(), sign(CHECK, BOB), ways()),
                         [[2, 4, 4], [8], [0], [6], [1], [6], [2], [3]])

    def test_six_steps(self):
        self.assertEqual(last(free(7, 6), ways()), [117649])
        self.assertEqual(last(free(7, 6, "".join(f"most p{k} 1\n" for k in range(7))), ways()), [5040])

    def test_seven_steps(self):
        self.assertEqual(last(free(7, 7), ways()), [-7])
        self.assertEqual(last(free(1, 7), ways()), [-7])
        self.assertEqual(last(free(1, 7), absent(0, 1), ways()), [-7])

    def test_six_of_seven_steps(self):
        self.assertEqual(ask(free(7, 7), ways(), sign(3, 3), ways(), sign(6, 0), ways()),
                         [[1, 7, 7], [-7], [0], [117649], [1], [16807]])
        self.assertEqual(last(free(2, 7), sign(0, 0), absent(0, 1), absent(1, 1), ways()), [0])

    def test_asking_changes_nothing(self):
        self.assertEqual(ask(TWO, ways(), ways(), view(1), plan(), needed()),
                         [[1, 2, 2], [2], [2], [-1], [2, 0, 0, 1, 1], [1, 0]])


class Names(unittest.TestCase):
    def test_all_kinds_of_lines(self):
        self.assertEqual(
            last(BATCH, names()),
            [2] + text_answer("op") + text_answer("qa")
            + [4] + text_answer("ann") + [1, 0, 99] + text_answer("bob") + [2, 0, 1, 2]
            + text_answer("cid") + [1, 1, 99] + text_answer("dan") + [0, 99]
            + [4] + text_answer("mix") + [1, 0] + text_answer("fill") + [1, 0]
            + text_answer("check") + [1, 1] + text_answer("pack") + [2, 0, 1]
            + [0])

    def test_number_by_number(self):
        self.assertEqual(last(load("role a\nperson b a\nmost b 7\nstep c1 by a\n"), absent(0, 1), names()),
                         [1, 1, 97, 1, 1, 98, 1, 0, 7, 1, 2, 99, 49, 1, 0, 1, 0])

    def test_empty_plan(self):
        self.assertEqual(last(load(""), names()), [0, 0, 0, 0])

    def test_one_kind_of_line_alone(self):
        self.assertEqual(last(load("role a"), names()), [1, 1, 97, 0, 0, 0])
        self.assertEqual(last(load("person a"), names()), [0, 1, 1, 97, 0, 99, 0, 0])
        self.assertEqual(last(load("person a"), absent(0, 1), names()), [0, 1, 1, 97, 0, 99, 0, 1, 0])

    def test_roles_rise_and_stand_once(self):
        text = load("role a\nrole b\nrole c\nperson p c a c\nstep s by c b c b\n")
        self.assertEqual(last(text, names()),
                         [3, 1, 97, 1, 98, 1, 99, 1, 1, 112, 2, 0, 2, 99, 1, 1, 115, 2, 1, 2, 0])

    def test_names_stand_in_the_order_of_their_lines(self):
        text = load("person z\nrole y\nperson b y\nrole a\nstep t by a\nstep s by y\nmost b 1\nperson c a\n")
        self.assertEqual(last(text, names()),
                         [2, 1, 121, 1, 97,
                          3, 1, 122, 0, 99, 1, 98, 1, 0, 1, 1, 99, 1, 1, 99,
                          2, 1, 116, 1, 1, 1, 115, 1, 0, 0])

    def test_mosts(self):
        text = load("person a\nperson b\nperson c\nperson d\nmost a 0\nmost b 99\nmost c 5\nmost c 10\n")
        self.assertEqual(last(text, names()),
                         [0, 4, 1, 97, 0, 0, 1, 98, 0, 99, 1, 99, 0, 10, 1, 100, 0, 99, 0, 0])

    def test_most_is_not_what_is_left(self):
        self.assertEqual(last(load("role a\nperson p a\nmost p 2\nstep s by a\n"), sign(0, 0), names()),
                         [1, 1, 97, 1, 1, 112, 1, 0, 2, 1, 1, 115, 1, 0, 0])

    def test_longest_names(self):
        name = "abcdefghij99"
        text = load(f"role {name}\nperson {name} {name}\nstep {name} by {name}\n")
        self.assertEqual(last(text, names()),
                         [1] + text_answer(name) + [1] + text_answer(name) + [1, 0, 99]
                         + [1] + text_answer(name) + [1, 0] + [0])

    def test_absent_rise(self):
        text = load("person a\nperson b\nperson c\nperson d\n")
        ahead = [0, 4, 1, 97, 0, 99, 1, 98, 0, 99, 1, 99, 0, 99, 1, 100, 0, 99, 0]
        self.assertEqual(last(text, names()), ahead + [0])
        self.assertEqual(last(text, absent(3, 1), absent(0, 1), absent(2, 1), names()), ahead + [3, 0, 2, 3])
        self.assertEqual(last(text, absent(3, 1), absent(0, 1), absent(3, 0), absent(1, 1), names()),
                         ahead + [2, 0, 1])
        self.assertEqual(last(text, absent(2, 1), absent(2, 1), names()), ahead + [1, 2])
        self.assertEqual(last(text, absent(2, 1), absent(2, 0), names()), ahead + [0])
        self.assertEqual(last(text, absent(3, 1), absent(2, 1), absent(1, 1), absent(0, 1), names()),
                         ahead + [4, 0, 1, 2, 3])

    def test_as_many_as_there_may_be(self):
        text = ("".join(f"role r{k}\n" for k in range(8)) + "".join(f"person p{k} r{k}\n" for k in range(7))
                + "".join(f"step s{k} by r{k}\n" for k in range(7)))
        expected = [8]
        for k in range(8):
            expected += [2, 114, 48 + k]
        expected += [7]
        for k in range(7):
            expected += [2, 112, 48 + k, 1, k, 99]
        expected += [7]
        for k in range(7):
            expected += [2, 115, 48 + k, 1, k]
        self.assertEqual(last(load(text), absent(6, 1), names()), expected + [1, 6])


if __name__ == "__main__":
    unittest.main()
