"""The call shown."""

import unittest

from tests.support import absent, ask, last, load, shown, sign, text_answer


class Shown(unittest.TestCase):
    def shows(self, text, expected):
        self.assertEqual(last(load(text), shown()), text_answer(expected))

    def test_empty_plan(self):
        self.assertEqual(ask(load(""), shown()), [[0, 0, 0], [0]])

    def test_one_role_byte_by_byte(self):
        self.assertEqual(last(load("role a7"), shown()), [8, 114, 111, 108, 101, 32, 97, 55, 10])

    def test_all_kinds_of_lines(self):
        self.shows(
            "  person zoe\n"
            "role qa\n"
            "role op\n"
            "role lead\n"
            "most zoe 0\n"
            "person bob   lead qa op qa\n"
            "\n"
            "step check by lead qa\n"
            "step mix by op qa op\n"
            "after mix check\n"
            "person ann op\n"
            "most ann 12\n"
            "most bob 99\n"
            "step fill by op\n"
            "alike fill mix\n"
            "unlike fill check\n"
            "after check fill\n"
            "unlike check mix\n"
            "role spare",
            "role qa\n"
            "role op\n"
            "role lead\n"
            "role spare\n"
            "person zoe\n"
            "person bob qa op lead\n"
            "person ann op\n"
            "most zoe 0\n"
            "most ann 12\n"
            "step check by qa lead\n"
            "step mix by qa op\n"
            "step fill by op\n"
            "after mix check\n"
            "after check fill\n"
            "unlike check fill\n"
            "unlike check mix\n"
            "alike mix fill\n")

    def test_most_in_the_order_of_persons(self):
        self.shows("person ann\nperson bob\nmost bob 3\nmost ann 98",
                   "person ann\nperson bob\nmost ann 98\nmost bob 3\n")

    def test_last_most_counts(self):
        self.shows("person ann\nmost ann 3\nmost ann 5", "person ann\nmost ann 5\n")
        self.shows("person ann\nmost ann 3\nmost ann 99", "person ann\n")
        self.shows("person ann\nmost ann 99\nmost ann 0", "person ann\nmost ann 0\n")

    def test_what_is_shown_can_be_loaded(self):
        text = "role a\nrole b\nperson p b a\nstep s by b a\nstep t by a\nalike t s\nafter t s\nmost p 2"
        first = last(load(text), shown())
        self.assertEqual(ask(load(first[1:]), shown()), [[2, 1, 2], first])

    def test_same_behind_signatures_and_absences(self):
        text = "role op\nperson ann op\nperson bob op\nstep mix by op\n"
        self.assertEqual(ask(load(text), sign(0, 0), absent(1, 1), shown()),
                         [[1, 2, 1], [0], [1], text_answer(text)])


if __name__ == "__main__":
    unittest.main()
