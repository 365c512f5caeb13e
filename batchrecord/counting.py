"""In how many ways a record can be ended.

A way gives each person a share of the steps not signed. The ways are counted person by person, by which steps
are given so far, for there may be too many of them to go through one by one. A share is also written as one
number, with the bit set at each of its steps.
"""

from batchrecord.ending import choices_of, open_options
from batchrecord.state import present_persons, room_of, unsigned_steps


def open_pairs(record, options, word):
    """The pairs of which both steps are to be given; of the others the options know already."""
    return [pair for pair in record.plan.pairs[word] if pair[0] in options and pair[1] in options]


def can_take(record, options, person, share):
    """Whether a person can be given just these of the steps not signed."""
    if len(share) > room_of(record, person):
        return False
    if not all([person in options[step] for step in share]):
        return False
    if any([first in share and second in share for first, second in open_pairs(record, options, "unlike")]):
        return False
    return all([(first in share) == (second in share) for first, second in open_pairs(record, options, "alike")])


def as_bits(steps):
    """Steps as one number."""
    return sum([1 << step for step in steps])


def one_person_on(counts, shares):
    """In how many ways each choice of steps is given, once one more person has taken one of their shares."""
    found = {}
    for given in counts:
        for share in shares:
            if given & share == 0:
                found[given | share] = found.get(given | share, 0) + counts[given]
    return found


def count_ways(record):
    """In how many ways persons can be given to all steps not signed."""
    options = open_options(record)
    choices = choices_of(unsigned_steps(record))
    counts = {0: 1}
    for person in present_persons(record):
        shares = [as_bits(share) for share in choices if can_take(record, options, person, share)]
        counts = one_person_on(counts, shares)
    return counts.get(as_bits(unsigned_steps(record)), 0)
