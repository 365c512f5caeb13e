"""The calls on a record, and the one list in which they stand."""

from batchrecord.amending import amendment_count, amendments_of, is_signature, put_amendment, viewed
from batchrecord.counting import count_ways
from batchrecord.ending import can_be_ended, core_steps, first_way, needed_persons
from batchrecord.lines import tell_text
from batchrecord.plans import Plan
from batchrecord.showing import listed, shown_names, shown_text
from batchrecord.signing import bar_of, free_signers, put_signature
from batchrecord.state import Record, absent_persons, unsigned_steps

LOAD = 0
AMEND = 8
LONGEST_TEXT = 4000
LONGEST_AMENDMENT = 60
MOST_AMENDMENTS = 40
MOST_COUNTED = 6
GREATEST_BYTE = 255

NO_SUCH = -1
NO_RECORD = -2
NO_MORE = -3
NOT_SO = -4
CANT_END = -7
TOO_MANY_LEFT = -7
BARRED = -10
IS_ABSENT = -13
SIGNED_IT = -14
WRONG_TEXT = -1000

# How many whole numbers each call has, at the call's own number.
NUMBER_COUNTS = (0, 0, 2, 2, 0, 0, 0, 1, 2, 1, 1, 2, 0, 0, 0)


class Desk:
    """The object on which calls are made: it holds a record, or None."""

    def __init__(self):
        self.record = None


class Call:
    """A call: its number, its whole numbers, its text (empty where it has none), how many places it takes."""

    def __init__(self, number, numbers, text, places):
        self.number = number
        self.numbers = numbers
        self.text = text
        self.places = places


def call_at(calls, place):
    """The call that begins at a place of the list."""
    number = calls[place]
    behind = place + 1 + NUMBER_COUNTS[number]
    numbers = calls[place + 1:behind]
    if number != LOAD and number != AMEND:
        return Call(number, numbers, [], behind - place)
    end = behind + 1 + calls[behind]
    return Call(number, numbers, calls[behind + 1:end], end - place)


def is_text(numbers, longest):
    """Whether numbers are bytes, and not more of them than may be."""
    return len(numbers) <= longest and all([0 <= number <= GREATEST_BYTE for number in numbers])


def is_step(record, number):
    """Whether a number is a step's."""
    return 0 <= number < len(record.plan.steps)


def is_person(record, number):
    """Whether a number is a person's."""
    return 0 <= number < len(record.plan.persons)


def load(desk, text):
    """Begin a new record with a text's plan."""
    if not is_text(text, LONGEST_TEXT):
        return [NO_SUCH]
    plan = Plan()
    wrong = tell_text(plan, text)
    if wrong > 0:
        return [WRONG_TEXT - wrong]
    record = Record(plan)
    if not can_be_ended(record):
        return [CANT_END]
    desk.record = record
    return [len(plan.roles), len(plan.persons), len(plan.steps)]


def shown(record, call):
    """The plan as a text."""
    return listed(shown_text(record.plan))


def sign(record, call):
    """Sign a step by a person, unless something bars it."""
    step = call.numbers[0]
    person = call.numbers[1]
    if not is_step(record, step) or not is_person(record, person):
        return [NO_SUCH]
    bar = bar_of(record, step, person)
    if bar > 0:
        return [BARRED - bar]
    return [put_signature(record, step, person)]


def set_absent(record, call):
    """Make a person absent or not, and tell whether the record can be ended then."""
    person = call.numbers[0]
    absent = call.numbers[1]
    if not is_person(record, person) or absent not in (0, 1):
        return [NO_SUCH]
    record.absent[person] = absent == 1
    return [1 if can_be_ended(record) else 0]


def plan_end(record, call):
    """The first way to end the record."""
    if not can_be_ended(record):
        return [NOT_SO]
    steps = unsigned_steps(record)
    answer = [len(steps)]
    for step, person in zip(steps, first_way(record)):
        answer.extend([step, person])
    return answer


def core(record, call):
    """The fewest steps that can't all be signed."""
    if can_be_ended(record):
        return [NOT_SO]
    return listed(core_steps(record))


def needed(record, call):
    """The fewest persons who mustn't be missing."""
    if not unsigned_steps(record):
        return [NOT_SO]
    return listed(needed_persons(record))


def who(record, call):
    """The persons who may sign a step now."""
    step = call.numbers[0]
    if not is_step(record, step):
        return [NO_SUCH]
    return listed(free_signers(record, step))


def amend(record, call):
    """Give a signature another text, by a person who is here and did not sign it."""
    number = call.numbers[0]
    person = call.numbers[1]
    if not is_signature(record, number) or not is_person(record, person):
        return [NO_SUCH]
    if not is_text(call.text, LONGEST_AMENDMENT):
        return [NO_SUCH]
    if record.absent[person]:
        return [IS_ABSENT]
    if record.entries[number].person == person:
        return [SIGNED_IT]
    if amendment_count(record) == MOST_AMENDMENTS:
        return [NO_MORE]
    return [put_amendment(record, number, person, call.text)]


def view(record, call):
    """The first entries, as they stood when there were no others."""
    count = call.numbers[0]
    if not 0 <= count <= len(record.entries):
        return [NO_SUCH]
    return [count] + viewed(record, count)


def history(record, call):
    """The entries that amend a signature."""
    number = call.numbers[0]
    if not is_signature(record, number):
        return [NO_SUCH]
    return listed(amendments_of(record, number))


def may(record, call):
    """What bars signing a step by a person."""
    step = call.numbers[0]
    person = call.numbers[1]
    if not is_step(record, step) or not is_person(record, person):
        return [NO_SUCH]
    return [bar_of(record, step, person)]


def released(record, call):
    """Whether all steps are signed."""
    return [0 if unsigned_steps(record) else 1]


def ways(record, call):
    """In how many ways the record can be ended."""
    if len(unsigned_steps(record)) > MOST_COUNTED:
        return [TOO_MANY_LEFT]
    return [count_ways(record)]


def names(record, call):
    """What the plan names, and who is absent."""
    return shown_names(record.plan) + listed(absent_persons(record))


# The calls on a record, by their numbers.
ON_A_RECORD = {1: shown, 2: sign, 3: set_absent, 4: plan_end, 5: core, 6: needed, 7: who, 8: amend, 9: view,
               10: history, 11: may, 12: released, 13: ways, 14: names}


def answer_to(desk, call):
    """What a call answers, and what it does."""
    if call.number == LOAD:
        return load(desk, call.text)
    if desk.record is None:
        return [NO_RECORD]
    return ON_A_RECORD[call.number](desk.record, call)


def answers(calls):
    """The answers to a list of calls on a new object, each with how many numbers it has ahead of it."""
    desk = Desk()
    found = []
    place = 0
    while place < len(calls):
        call = call_at(calls, place)
        found.extend(listed(answer_to(desk, call)))
        place += call.places
    return found
