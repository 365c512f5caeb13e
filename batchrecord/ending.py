"""Whether and how a record can be ended."""

from batchrecord.filling import can_fill
from batchrecord.state import goes_with, may_do, present_persons, room_of, unsigned_steps


def open_options(record):
    """The options of all steps not signed, as far as the absent and the signed steps bind them."""
    options = {}
    for step in unsigned_steps(record):
        able = [person for person in present_persons(record) if may_do(record, person, step)]
        options[step] = [person for person in able if goes_with(record, person, step)]
    return options


def given(options, step, person):
    """The options with a step left to one person."""
    narrower = dict(options)
    narrower[step] = [person]
    return narrower


def only_steps(options, steps):
    """The options of some steps alone."""
    fewer = {}
    for step in steps:
        fewer[step] = options[step]
    return fewer


def without_persons(options, persons):
    """The options if some persons were absent."""
    narrower = {}
    for step in options:
        narrower[step] = [person for person in options[step] if person not in persons]
    return narrower


def fillable(record, options):
    """Whether the options, drawn from the record's own, leave a way to give each step a person."""
    rooms = [room_of(record, person) for person in range(len(record.plan.persons))]
    return can_fill(record.plan, options, rooms)


def can_be_ended(record):
    """Whether persons can be given to all steps not signed."""
    return fillable(record, open_options(record))


def can_be_ended_with(record, step, person):
    """Whether the record could be ended once a person who goes with what is signed has signed a step."""
    return fillable(record, given(open_options(record), step, person))


def first_way(record):
    """The persons of the first way to end a record that can be ended, by the steps not signed."""
    options = open_options(record)
    for step in unsigned_steps(record):
        fitting = [person for person in options[step] if fillable(record, given(options, step, person))]
        options = given(options, step, fitting[0])
    return [options[step][0] for step in options]


def one_longer(choices, members):
    """Each choice with each of the members that are greater than its last."""
    longer = []
    for choice in choices:
        for member in members:
            if not choice or member > choice[-1]:
                longer.append(choice + [member])
    return longer


def choices_of(members):
    """All choices from rising members, the fewest first, and of as few the first."""
    found = []
    level = [[]]
    while level:
        found.extend(level)
        level = one_longer(level, members)
    return found


def core_steps(record):
    """The first of the fewest steps not signed that can't all be given to persons; there must be such."""
    options = open_options(record)
    for steps in choices_of(unsigned_steps(record)):
        if not fillable(record, only_steps(options, steps)):
            return steps
    return []


def needed_persons(record):
    """The first of the fewest persons without whom the record can't be ended; a step must be unsigned."""
    options = open_options(record)
    for persons in choices_of(present_persons(record)):
        if not fillable(record, without_persons(options, persons)):
            return persons
    return []
