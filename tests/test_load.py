"""Texts, and the call load."""

import unittest

from tests.support import GREATEST, LEAST, absent, ask, last, load, needed, plan, shown, sign, text_answer, who

NAMED = "role op\nperson ann op\nstep mix by op\nstep fill by op\n"
STEPS = "role op\nperson ann op\n" + "".join(f"step s{k} by op\n" for k in range(7))
MANY = "role op\n" + "".join(f"person p{k} op\n" for k in range(7)) + "".join(f"step s{k} by op\n" for k in range(7))
PAIRS = [(later, earlier) for later in range(7) for earlier in range(later)]


def pairs_of(word, pairs):
    return "".join(f"{word} s{first} s{second}\n" for first, second in pairs)


class Loading(unittest.TestCase):
    def answers_to(self, text, *numbers):
        self.assertEqual(ask(load(text)), [list(numbers)], text)


class Words(Loading):
    def test_empty_text(self):
        self.answers_to("", 0, 0, 0)

    def test_lines_without_words(self):
        self.answers_to("\n", 0, 0, 0)
        self.answers_to("   \n\n \n    ", 0, 0, 0)

    def test_counts_of_roles_persons_and_steps(self):
        self.answers_to("role a\nrole b\nrole c\nperson p a\nperson q\nstep s by a b\n", 3, 2, 1)

    def test_line_end_at_the_end_or_not(self):
        self.answers_to("role op\nperson ann op\nstep mix by op\n", 1, 1, 1)
        self.answers_to("role op\nperson ann op\nstep mix by op", 1, 1, 1)

    def test_several_blanks(self):
        self.answers_to("  role    op  \n person   ann    op \n   step mix    by   op  op ", 1, 1, 1)

    def test_lines_without_words_are_numbered(self):
        self.answers_to("\n   \nrole op\n\nrole 1\n", -1501)

    def test_other_white_bytes_part_nothing(self):
        for byte in (0, 9, 11, 12, 13, 28, 133, 160):
            self.answers_to(list(b"role") + [byte] + list(b"op"), -1101)
            self.answers_to(list(b"role op") + [byte], -1101)
            self.answers_to([byte], -1101)

    def test_no_words_across_lines(self):
        self.answers_to("role\nop", -1101)


class Bytes(Loading):
    def test_longest_text(self):
        self.answers_to("role op\n" + " " * 3992, 1, 0, 0)
        self.answers_to("\n" * 4000, 0, 0, 0)
        self.answers_to("\n" * 3999 + "x", -401001)

    def test_too_long_text(self):
        self.answers_to("role op\n" + " " * 3993, -1)
        self.answers_to("\n" * 5000, -1)

    def test_numbers_that_are_no_byte(self):
        for number in (-1, 256, LEAST, GREATEST):
            self.answers_to([number], -1)
            self.answers_to(list(b"role op\n") + [number], -1)

    def test_least_and_greatest_byte(self):
        self.answers_to([0], -1101)
        self.answers_to([255], -1101)

    def test_ahead_of_a_wrong_line(self):
        self.answers_to("x" * 4001, -1)
        self.answers_to(list(b"wrong\n") + [256], -1)


class NoSuchLine(Loading):
    def wrong(self, *lines):
        for line in lines:
            self.answers_to(NAMED + line, -1501)

    def test_no_known_first_word(self):
        self.wrong("roles a", "Role a", "x", "by", "rol a", "1", "?", "role? a", "plan a", "#", "before mix fill",
                   "least ann 2", "mosts ann 2", "ann mix fill")

    def test_role(self):
        self.wrong("role", "role qa op", "role Qa", "role 1a", "role q-a", "role q_a", "role q?", "role qA")

    def test_person(self):
        self.wrong("person", "person Bob", "person 1bob op", "person bob Op", "person bob op 1", "person bob op, op")

    def test_step(self):
        self.wrong("step", "step pack", "step pack by", "step pack op", "step pack op op", "step pack By op",
                   "step by op", "step pack by Op", "step 1 by op", "step Pack by op", "step pack by op 1op",
                   "step pack op by op", "step pack by2 op")

    def test_pairs(self):
        for word in ("after", "unlike", "alike"):
            self.wrong(word, word + " fill", word + " fill mix mix", word + " Fill mix", word + " fill 1",
                       word + " fill by mix", word.upper() + " fill mix")

    def test_most(self):
        self.wrong("most", "most ann", "most ann 1 2", "most Ann 1", "most 1 1", "most ann ann")

    def test_numbers_of_most(self):
        self.wrong("most ann 100", "most ann 00", "most ann 07", "most ann 000", "most ann -1", "most ann +1",
                   "most ann 1a", "most ann x", "most ann 1.", "most ann 999999999999999999999999")
        self.answers_to(list((NAMED + "most ann ").encode()) + [178], -1501)
        for number in ("2", "9", "10", "98", "99"):
            self.answers_to(NAMED + "most ann " + number, 1, 1, 2)
        self.answers_to("role op\nperson ann op\nmost ann 0", 1, 1, 0)

    def test_length_of_names(self):
        self.answers_to("role abcdefghijkl", 1, 0, 0)
        self.answers_to("role a1234567890z", 1, 0, 0)
        self.answers_to("role a", 1, 0, 0)
        self.answers_to("role abcdefghijklm", -1101)
        self.answers_to("role op\nperson abcdefghijklm op", -1201)
        self.answers_to(NAMED + "after mix abcdefghijklm", -1501)

    def test_first_and_last_letter_and_digit(self):
        self.answers_to("role az09", 1, 0, 0)
        for sign_beside in ("`", "{", "/", ":", "@", "["):
            self.answers_to("role a" + sign_beside, -1101)
            self.answers_to("role " + sign_beside, -1101)

    def test_words_of_lines_as_names(self):
        self.answers_to("role by\nrole role\nperson person by role\nstep by by by\nstep step by role by\n"
                        "after step by\nmost person 2", 2, 1, 2)


class ToldAlready(Loading):
    def test_names(self):
        self.answers_to("role op\nrole op", -1202)
        self.answers_to("role op\nperson ann op\nperson ann", -1302)
        self.answers_to(NAMED + "step mix by op", -1502)

    def test_one_name_for_a_role_a_person_and_a_step(self):
        self.answers_to("role a\nperson a a\nstep a by a", 1, 1, 1)

    def test_pairs_told_again(self):
        for word in ("after", "unlike", "alike"):
            self.answers_to(MANY + word + " s3 s1\n" + word + " s3 s1", -2702)

    def test_pairs_told_the_other_way_round(self):
        self.answers_to(MANY + "unlike s1 s3\nunlike s3 s1", -2702)
        self.answers_to(MANY + "unlike s3 s1\nunlike s1 s3", -2702)
        self.answers_to(MANY + "alike s1 s3\nalike s3 s1", -2702)
        self.answers_to(MANY + "alike s3 s1\nalike s1 s3", -2702)

    def test_one_pair_in_several_kinds(self):
        self.answers_to(MANY + "after s3 s1\nunlike s3 s1", 1, 7, 7)
        self.answers_to(MANY + "after s3 s1\nalike s1 s3", 1, 7, 7)

    def test_most_may_be_told_again(self):
        self.answers_to(NAMED + "most ann 0\nmost ann 2", 1, 1, 2)
        self.answers_to(NAMED + "most ann 2\nmost ann 0", -7)


class NotTold(Loading):
    def test_roles(self):
        self.answers_to("person ann op", -1103)
        self.answers_to("role op\nperson ann op qa", -1203)
        self.answers_to("step mix by op", -1103)
        self.answers_to("role op\nstep mix by op qa", -1203)

    def test_told_in_a_later_line(self):
        self.answers_to("person ann op\nrole op", -1103)
        self.answers_to("role op\nperson ann op\nstep mix by op\nafter mix fill\nstep fill by op", -1403)
        self.answers_to("role op\nmost ann 1\nperson ann op", -1203)

    def test_steps_of_pairs(self):
        for word in ("after", "unlike", "alike"):
            self.answers_to(NAMED + word + " mix pack", -1503)
            self.answers_to(NAMED + word + " pack mix", -1503)
            self.answers_to(NAMED + word + " pack pack", -1503)

    def test_persons_of_most(self):
        self.answers_to(NAMED + "most bob 1", -1503)

    def test_names_of_another_kind(self):
        self.answers_to(NAMED + "person bob ann", -1503)
        self.answers_to(NAMED + "step pack by mix", -1503)
        self.answers_to(NAMED + "after mix ann", -1503)
        self.answers_to(NAMED + "most op 1", -1503)


class TurnsOnItself(Loading):
    def test_one_step_twice(self):
        for word in ("after", "unlike", "alike"):
            self.answers_to(NAMED + word + " mix mix", -1504)

    def test_ring_of_two(self):
        self.answers_to(STEPS + "after s1 s0\nafter s0 s1", -2104)

    def test_ring_of_three(self):
        self.answers_to(STEPS + "after s1 s0\nafter s2 s1\nafter s0 s2", -2204)
        self.answers_to(STEPS + "after s2 s1\nafter s1 s0\nafter s0 s2", -2204)

    def test_ring_of_seven(self):
        chain = pairs_of("after", [(6, 5), (4, 3), (2, 1), (1, 0), (3, 2), (5, 4)])
        self.answers_to(STEPS + chain, 1, 1, 7)
        self.answers_to(STEPS + chain + "after s0 s6", -2604)
        self.answers_to(STEPS + chain + "after s2 s5", -2604)

    def test_no_ring(self):
        self.answers_to(STEPS + "after s1 s0\nafter s2 s0\nafter s3 s1\nafter s3 s2\nafter s3 s0", 1, 1, 7)

    def test_other_pairs_may_make_a_ring(self):
        self.answers_to(MANY + "unlike s0 s1\nunlike s1 s2\nunlike s2 s0", 1, 7, 7)
        self.answers_to(MANY + "alike s0 s1\nalike s1 s2\nalike s2 s0", 1, 7, 7)


class TooMany(Loading):
    def test_roles(self):
        eight = "".join(f"role r{k}\n" for k in range(8))
        self.answers_to(eight, 8, 0, 0)
        self.answers_to(eight + "role r8", -1905)
        self.answers_to(eight + "role r7", -1902)
        self.answers_to(eight + "role R8", -1901)

    def test_persons(self):
        seven = "role op\n" + "".join(f"person p{k} op\n" for k in range(7))
        self.answers_to(seven, 1, 7, 0)
        self.answers_to(seven + "person p7", -1905)
        self.answers_to(seven + "person p6", -1902)
        self.answers_to(seven + "person p7 qa", -1903)

    def test_steps(self):
        self.answers_to(STEPS, 1, 1, 7)
        self.answers_to(STEPS + "step s7 by op", -2005)
        self.answers_to(STEPS + "step s6 by op", -2002)
        self.answers_to(STEPS + "step s7 by qa", -2003)

    def test_pairs(self):
        for word in ("after", "unlike", "alike"):
            twelve = MANY + pairs_of(word, PAIRS[:12])
            self.answers_to(twelve, 1, 7, 7)
            self.answers_to(twelve + pairs_of(word, PAIRS[12:13]), -3805)
            self.answers_to(twelve + pairs_of(word, PAIRS[:1]), -3802)
            self.answers_to(twelve + word + " s6 s6", -3804)
            self.answers_to(twelve + word + " s6 s7", -3803)
            self.answers_to(twelve + word + " s6 S5", -3801)
        self.answers_to(MANY + pairs_of("after", PAIRS[:12]) + "after s0 s1", -3804)

    def test_pairs_of_each_kind_are_counted_apart(self):
        self.answers_to(MANY + pairs_of("after", PAIRS[:12]) + pairs_of("alike", PAIRS[:12]), 1, 7, 7)

    def test_any_number_of_mosts(self):
        self.answers_to(NAMED + "most ann 2\n" * 100, 1, 1, 2)


class Order(Loading):
    def test_form_ahead_of_all_else(self):
        self.answers_to("role op\nrole op op", -1201)
        self.answers_to("person ann op Qa", -1101)
        self.answers_to("after mix Mix", -1101)
        self.answers_to("most ann 100", -1101)

    def test_name_ahead_of_roles(self):
        self.answers_to("role op\nperson ann op\nperson ann qa", -1302)
        self.answers_to(NAMED + "step mix by qa", -1502)

    def test_first_wrong_line(self):
        self.answers_to("role op\nrole op\nrole 1", -1202)
        self.answers_to("role op\n\nrole qa\nmost ann 1\nrole op", -1403)

    def test_far_line(self):
        self.answers_to("\n" * 120 + "role", -13101)


class NoEnd(Loading):
    def test_nobody_with_a_role(self):
        self.answers_to("role op\nstep mix by op", -7)
        self.answers_to("role op\nrole qa\nperson ann qa\nperson bob\nstep mix by op", -7)

    def test_pairs_and_mosts(self):
        self.answers_to(NAMED + "unlike mix fill", -7)
        self.answers_to(NAMED + "most ann 1", -7)
        self.answers_to(NAMED + "person bob op\nunlike mix fill\nalike mix fill", -7)
        self.answers_to("role a\nrole b\nperson p a\nperson q b\nstep s by a\nstep t by b\nalike s t", -7)

    def test_alike_pairs_reach_on(self):
        three = "role a\nperson p a\nperson q a\n" + "".join(f"step s{k} by a\n" for k in range(3))
        self.answers_to(three + "alike s0 s1\nalike s1 s2\nunlike s0 s2", -7)

    def test_wrong_text_ahead(self):
        self.answers_to("role op\nstep mix by op\nmost ann 1", -1303)


class WhatIsLeft(unittest.TestCase):
    FIRST = "role op\nperson ann op\nperson bob op\nstep mix by op\nstep fill by op\n"

    def test_refused_load_leaves_the_record(self):
        for text, refusal in (([256], -1), ("role", -1101), ("role op\nstep mix by op", -7)):
            self.assertEqual(
                ask(load(self.FIRST), sign(0, 1), absent(0, 1), load(text), shown(), plan(), sign(1, 1)),
                [[1, 2, 2], [0], [1], [refusal], text_answer(self.FIRST), [1, 1, 1], [1]])

    def test_new_record(self):
        other = "role qa\nperson cid qa\nperson dan qa\nstep check by qa\n"
        self.assertEqual(
            ask(load(self.FIRST), sign(0, 1), absent(0, 1), load(other), shown(), who(0), plan(), sign(0, 0)),
            [[1, 2, 2], [0], [1], [1, 2, 1], text_answer(other), [2, 0, 1], [1, 0, 0], [0]])

    def test_same_text_again(self):
        self.assertEqual(ask(load(self.FIRST), sign(0, 1), load(self.FIRST), sign(0, 1), sign(1, 0)),
                         [[1, 2, 2], [0], [1, 2, 2], [0], [1]])

    def test_refused_first_load_leaves_no_record(self):
        self.assertEqual(last(load("role op\nstep mix by op"), needed()), [-2])
        self.assertEqual(last(load("role op\nrole op"), shown()), [-2])


if __name__ == "__main__":
    unittest.main()
