"""What bars a signature, and who may give one."""

from batchrecord.ending import can_be_ended_with
from batchrecord.plans import told_before
from batchrecord.state import SIGNATURE, Entry, goes_with, may_do, put_entry

NOTHING = 0
SIGNED = 1
TOO_EARLY = 2
MAY_NOT = 3
DOES_NOT_GO = 4
NO_END = 5


def bar_of(record, step, person):
    """What bars signing a step by a person: the first that's so."""
    if record.signers[step] is not None:
        return SIGNED
    if any([record.signers[earlier] is None for earlier in told_before(record.plan, step)]):
        return TOO_EARLY
    if not may_do(record, person, step):
        return MAY_NOT
    if not goes_with(record, person, step):
        return DOES_NOT_GO
    if not can_be_ended_with(record, step, person):
        return NO_END
    return NOTHING


def free_signers(record, step):
    """The persons of whom nothing bars signing a step, rising."""
    return [person for person in range(len(record.plan.persons)) if bar_of(record, step, person) == NOTHING]


def put_signature(record, step, person):
    """Make a signature an entry, and give the entry's number."""
    record.signers[step] = person
    return put_entry(record, Entry(SIGNATURE, step, person, []))
