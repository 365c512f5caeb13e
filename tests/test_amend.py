"""The calls amend, view and history."""

import unittest

from tests.support import (ANN, BATCH, BOB, CHECK, CID, DAN, FILL, GREATEST, LEAST, MIX, PACK, absent, amend, ask,
                           history, last, sign, view)

# One signature, by ann, with the number 0.
MIXED = [BATCH, sign(MIX, ANN)]
FORTY = [amend(0, BOB, [each]) for each in range(40)]
WRONG_ENTRIES = (-1, 1, 40, LEAST, GREATEST)
WRONG_PERSONS = (-1, 4, LEAST, GREATEST)
WRONG_TEXTS = ([65] * 61, [-1], [256], [LEAST], [GREATEST], [65] * 59 + [256], [-1] + [65] * 59, [0] * 5000,
               [256] * 5000)


class Amend(unittest.TestCase):
    def test_numbers_of_entries(self):
        self.assertEqual(
            ask(*MIXED, amend(0, BOB, b"a"), amend(0, CID, b"b"), sign(FILL, ANN), amend(3, DAN, b"c"),
                amend(0, BOB, b"d"), sign(CHECK, CID)),
            [[2, 4, 4], [0], [1], [2], [3], [4], [5], [6]])

    def test_no_entry(self):
        for number in WRONG_ENTRIES:
            self.assertEqual(ask(*MIXED, amend(number, BOB, b"a")), [[2, 4, 4], [0], [-1]])

    def test_no_entries_at_all(self):
        self.assertEqual(ask(BATCH, amend(0, BOB, b"a"), amend(-1, BOB, b"a")), [[2, 4, 4], [-1], [-1]])

    def test_an_amendment_is_not_amended(self):
        self.assertEqual(ask(*MIXED, amend(0, BOB, b"a"), amend(1, CID, b"b"), amend(1, ANN, b"b"), view(2)),
                         [[2, 4, 4], [0], [1], [-1], [-1], [2, 0, MIX, ANN, 1, 97, 1, 0, BOB, 1, 97]])

    def test_an_entry_as_soon_as_there_is_one(self):
        self.assertEqual(ask(*MIXED, amend(1, BOB, b"a"), sign(FILL, ANN), amend(1, BOB, b"a")),
                         [[2, 4, 4], [0], [-1], [1], [2]])

    def test_entries_not_steps_are_amended(self):
        self.assertEqual(ask(BATCH, sign(PACK, CID), amend(PACK, ANN, b"a"), amend(0, ANN, b"a"), view(2)),
                         [[2, 4, 4], [0], [-1], [1], [2, 0, PACK, CID, 1, 97, 1, 0, ANN, 1, 97]])

    def test_no_person(self):
        for number in WRONG_PERSONS:
            self.assertEqual(ask(*MIXED, amend(0, number, b"a")), [[2, 4, 4], [0], [-1]])

    def test_wrong_texts(self):
        for text in WRONG_TEXTS:
            self.assertEqual(ask(*MIXED, amend(0, BOB, text), view(1)), [[2, 4, 4], [0], [-1], [1, 0, MIX, ANN, 0]])

    def test_longest_text(self):
        text = list(range(196, 256))
        self.assertEqual(ask(*MIXED, amend(0, BOB, text), view(2)),
                         [[2, 4, 4], [0], [1], [2, 0, MIX, ANN, 60] + text + [1, 0, BOB, 60] + text])

    def test_empty_text(self):
        self.assertEqual(ask(*MIXED, amend(0, BOB, b""), view(2)),
                         [[2, 4, 4], [0], [1], [2, 0, MIX, ANN, 0, 1, 0, BOB, 0]])

    def test_any_byte(self):
        self.assertEqual(ask(*MIXED, amend(0, BOB, [0, 10, 32, 255]), view(2)),
                         [[2, 4, 4], [0], [1], [2, 0, MIX, ANN, 4, 0, 10, 32, 255, 1, 0, BOB, 4, 0, 10, 32, 255]])

    def test_absent(self):
        self.assertEqual(
            ask(*MIXED, absent(BOB, 1), amend(0, BOB, b"a"), amend(0, CID, b"a"), absent(BOB, 0), amend(0, BOB, b"a")),
            [[2, 4, 4], [0], [1], [-13], [1], [1], [2]])

    def test_the_one_who_signed_it(self):
        self.assertEqual(ask(*MIXED, amend(0, ANN, b"a"), amend(0, BOB, b"a"), amend(0, ANN, b"a")),
                         [[2, 4, 4], [0], [-14], [1], [-14]])

    def test_the_one_who_signed_another_entry(self):
        self.assertEqual(
            ask(BATCH, sign(PACK, CID), sign(MIX, ANN), amend(0, ANN, b"a"), amend(1, CID, b"b"), amend(0, CID, b"c"),
                amend(1, ANN, b"d")),
            [[2, 4, 4], [0], [1], [2], [3], [-14], [-14]])

    def test_no_role_and_no_room_is_asked(self):
        self.assertEqual(
            ask(BATCH, sign(MIX, BOB), sign(FILL, BOB), sign(PACK, ANN), amend(2, BOB, b"a"), amend(2, DAN, b"b")),
            [[2, 4, 4], [0], [1], [2], [3], [4]])

    def test_signature_of_an_absent_person(self):
        self.assertEqual(ask(*MIXED, absent(ANN, 1), amend(0, BOB, b"a")), [[2, 4, 4], [0], [0], [1]])

    def test_same_person_and_same_text_again(self):
        self.assertEqual(ask(*MIXED, amend(0, BOB, b"a"), amend(0, BOB, b"a"), history(0)),
                         [[2, 4, 4], [0], [1], [2], [2, 1, 2]])

    def test_forty_and_no_more(self):
        self.assertEqual(ask(*MIXED, *FORTY, amend(0, BOB, b"a"), amend(0, CID, b"")),
                         [[2, 4, 4], [0]] + [[number] for number in range(1, 41)] + [[-3], [-3]])

    def test_forty_of_several_signatures(self):
        calls = [BATCH, sign(MIX, ANN), sign(PACK, CID)] + [amend(k % 2, BOB, b"") for k in range(40)]
        self.assertEqual(ask(*calls, amend(0, BOB, b""), amend(1, BOB, b""), amend(1, DAN, b"")),
                         [[2, 4, 4], [0], [1]] + [[number] for number in range(2, 42)] + [[-3], [-3], [-3]])

    def test_refused_ones_do_not_count_toward_forty(self):
        self.assertEqual(ask(*MIXED, *FORTY[:39], amend(0, ANN, b""), amend(9, BOB, b""), amend(0, BOB, b""))[-4:],
                         [[39], [-14], [-1], [40]])

    def test_signatures_behind_forty(self):
        self.assertEqual(ask(*MIXED, *FORTY, sign(FILL, ANN), amend(41, BOB, b""), sign(CHECK, BOB))[-3:],
                         [[41], [-3], [42]])


class AmendRefusals(unittest.TestCase):
    """Where several refusals are due, the first in the document's order is answered."""

    def test_no_such_ahead_of_absent(self):
        away = [*MIXED, absent(BOB, 1)]
        for number in WRONG_ENTRIES:
            self.assertEqual(last(*away, amend(number, BOB, b"a")), [-1])
        for text in WRONG_TEXTS:
            self.assertEqual(last(*away, amend(0, BOB, text)), [-1])

    def test_no_such_ahead_of_signed_it(self):
        for text in WRONG_TEXTS:
            self.assertEqual(last(*MIXED, amend(0, ANN, text)), [-1])

    def test_no_such_ahead_of_forty(self):
        for number in WRONG_ENTRIES[:-3] + (41, LEAST, GREATEST):
            self.assertEqual(last(*MIXED, *FORTY, amend(number, BOB, b"a")), [-1])
        for number in WRONG_PERSONS:
            self.assertEqual(last(*MIXED, *FORTY, amend(0, number, b"a")), [-1])
        for text in WRONG_TEXTS:
            self.assertEqual(last(*MIXED, *FORTY, amend(0, BOB, text)), [-1])

    def test_several_of_no_such(self):
        self.assertEqual(last(*MIXED, amend(-1, -1, [256])), [-1])
        self.assertEqual(last(*MIXED, amend(0, 4, [0] * 61)), [-1])
        self.assertEqual(last(*MIXED, amend(1, BOB, [-1])), [-1])

    def test_absent_ahead_of_signed_it(self):
        self.assertEqual(last(*MIXED, absent(ANN, 1), amend(0, ANN, b"a")), [-13])

    def test_absent_ahead_of_forty(self):
        self.assertEqual(last(*MIXED, *FORTY, absent(BOB, 1), amend(0, BOB, b"a")), [-13])

    def test_signed_it_ahead_of_forty(self):
        self.assertEqual(last(*MIXED, *FORTY, amend(0, ANN, b"a")), [-14])

    def test_all_at_once(self):
        full = [*MIXED, *FORTY, absent(ANN, 1)]
        self.assertEqual(last(*full, amend(0, ANN, [256])), [-1])
        self.assertEqual(last(*full, amend(0, ANN, b"a")), [-13])
        self.assertEqual(last(*full, absent(ANN, 0), amend(0, ANN, b"a")), [-14])
        self.assertEqual(last(*full, amend(0, BOB, b"a")), [-3])

    def test_refusals_change_nothing(self):
        refused = [amend(1, BOB, b"z"), amend(2, BOB, b"z"), amend(0, 4, b"z"), amend(0, BOB, [256]),
                   amend(0, DAN, b"z"), amend(0, ANN, b"z")]
        stands = [2, 0, MIX, ANN, 1, 97, 1, 0, BOB, 1, 97]
        self.assertEqual(
            ask(*MIXED, amend(0, BOB, b"a"), absent(DAN, 1), view(2), *refused, view(2), view(3), history(0),
                amend(0, CID, b"b")),
            [[2, 4, 4], [0], [1], [1], stands, [-1], [-1], [-1], [-1], [-13], [-14], stands, [-1], [1, 1], [2]])

    def test_the_forty_first_changes_nothing(self):
        self.assertEqual(ask(*MIXED, *FORTY, amend(0, CID, b"zz"), view(1), view(42), history(0))[-4:],
                         [[-3], [1, 0, MIX, ANN, 0], [-1], [40] + list(range(1, 41))])


class View(unittest.TestCase):
    CALLS = [BATCH, sign(PACK, CID), sign(MIX, ANN), amend(1, BOB, b"mm"), amend(0, ANN, b"p"), sign(FILL, ANN),
             amend(1, CID, b""), amend(4, DAN, b"fff"), amend(1, DAN, b"m")]
    AS_OF = [
        [0],
        [1, 0, PACK, CID, 0],
        [2, 0, PACK, CID, 0, 0, MIX, ANN, 0],
        [3, 0, PACK, CID, 0, 0, MIX, ANN, 2, 109, 109, 1, 1, BOB, 2, 109, 109],
        [4, 0, PACK, CID, 1, 112, 0, MIX, ANN, 2, 109, 109, 1, 1, BOB, 2, 109, 109, 1, 0, ANN, 1, 112],
        [5, 0, PACK, CID, 1, 112, 0, MIX, ANN, 2, 109, 109, 1, 1, BOB, 2, 109, 109, 1, 0, ANN, 1, 112,
         0, FILL, ANN, 0],
        [6, 0, PACK, CID, 1, 112, 0, MIX, ANN, 0, 1, 1, BOB, 2, 109, 109, 1, 0, ANN, 1, 112, 0, FILL, ANN, 0,
         1, 1, CID, 0],
        [7, 0, PACK, CID, 1, 112, 0, MIX, ANN, 0, 1, 1, BOB, 2, 109, 109, 1, 0, ANN, 1, 112,
         0, FILL, ANN, 3, 102, 102, 102, 1, 1, CID, 0, 1, 4, DAN, 3, 102, 102, 102],
        [8, 0, PACK, CID, 1, 112, 0, MIX, ANN, 1, 109, 1, 1, BOB, 2, 109, 109, 1, 0, ANN, 1, 112,
         0, FILL, ANN, 3, 102, 102, 102, 1, 1, CID, 0, 1, 4, DAN, 3, 102, 102, 102, 1, 1, DAN, 1, 109],
    ]

    def test_as_of_each_count(self):
        for count, stands in enumerate(self.AS_OF):
            self.assertEqual(last(*self.CALLS, view(count)), stands)

    def test_the_same_then_and_later(self):
        for count, stands in enumerate(self.AS_OF):
            self.assertEqual(ask(*self.CALLS[:count + 1], view(count))[-1], stands)

    def test_one_view_behind_another(self):
        views = [view(count) for count in range(8, -1, -1)]
        self.assertEqual(ask(*self.CALLS, *views)[9:], self.AS_OF[::-1])

    def test_more_than_there_are(self):
        self.assertEqual(last(*self.CALLS, view(9)), [-1])
        self.assertEqual(last(*self.CALLS, view(100)), [-1])
        self.assertEqual(last(BATCH, view(1)), [-1])

    def test_below_0_and_the_ends_of_the_range(self):
        for count in (-1, -8, LEAST, GREATEST):
            self.assertEqual(last(*self.CALLS, view(count)), [-1])
            self.assertEqual(last(BATCH, view(count)), [-1])

    def test_no_entries(self):
        self.assertEqual(last(BATCH, view(0)), [0])

    def test_refused_calls_are_no_entries(self):
        self.assertEqual(ask(*MIXED, sign(MIX, ANN), amend(0, ANN, b"a"), view(1), view(2)),
                         [[2, 4, 4], [0], [-11], [-14], [1, 0, MIX, ANN, 0], [-1]])

    def test_all_entries_there_can_be(self):
        text = [7] * 60
        calls = [*MIXED] + [amend(0, BOB, text)] * 40 + [sign(FILL, ANN)]
        self.assertEqual(last(*calls, view(42)),
                         [42, 0, MIX, ANN, 60] + text + ([1, 0, BOB, 60] + text) * 40 + [0, FILL, ANN, 0])

    def test_absence_changes_no_entry(self):
        self.assertEqual(last(*self.CALLS, absent(CID, 1), absent(DAN, 1), absent(ANN, 1), view(8)), self.AS_OF[8])


class History(unittest.TestCase):
    def test_none(self):
        self.assertEqual(last(*MIXED, history(0)), [0])

    def test_one(self):
        self.assertEqual(last(*MIXED, amend(0, BOB, b"a"), history(0)), [1, 1])

    def test_several_and_mixed(self):
        self.assertEqual(ask(*View.CALLS, history(0), history(1), history(4))[9:], [[1, 3], [3, 2, 5, 7], [1, 6]])

    def test_amendments_of_another_signature(self):
        self.assertEqual(ask(BATCH, sign(PACK, CID), sign(MIX, ANN), amend(1, BOB, b""), history(0), history(1)),
                         [[2, 4, 4], [0], [1], [2], [0], [1, 2]])

    def test_empty_amendments_count(self):
        self.assertEqual(last(*MIXED, amend(0, BOB, b""), amend(0, CID, b""), history(0)), [2, 1, 2])

    def test_an_amendment(self):
        for entry in (2, 3, 5, 6, 7):
            self.assertEqual(last(*View.CALLS, history(entry)), [-1])

    def test_no_entry(self):
        for entry in (-1, -8, 8, 9, LEAST, GREATEST):
            self.assertEqual(last(*View.CALLS, history(entry)), [-1])
        for entry in (-1, 0, 1, LEAST, GREATEST):
            self.assertEqual(last(BATCH, history(entry)), [-1])

    def test_all_forty(self):
        self.assertEqual(last(*MIXED, *FORTY, history(0)), [40] + list(range(1, 41)))


if __name__ == "__main__":
    unittest.main()
