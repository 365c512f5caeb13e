"""A record as it stands: its plan, who is absent, its entries, what is signed and by whom."""

from batchrecord.plans import partners

SIGNATURE = 0
AMENDMENT = 1


class Entry:
    """A signature of a step, or an amendment of an entry that is a signature: which, of what, by whom, its text."""

    def __init__(self, kind, target, person, text):
        self.kind = kind
        self.target = target
        self.person = person
        self.text = text


class Record:
    """At each person's number whether they are absent, at each step's number who signed it or None."""

    def __init__(self, plan):
        self.plan = plan
        self.absent = [False] * len(plan.persons)
        self.entries = []
        self.signers = [None] * len(plan.steps)


def unsigned_steps(record):
    """The steps that nobody has signed, rising."""
    return [step for step, signer in enumerate(record.signers) if signer is None]


def present_persons(record):
    """The persons who are not absent, rising."""
    return [person for person, absent in enumerate(record.absent) if not absent]


def absent_persons(record):
    """The persons who are absent, rising."""
    return [person for person, absent in enumerate(record.absent) if absent]


def put_entry(record, entry):
    """Put an entry behind the others, and give its number."""
    record.entries.append(entry)
    return len(record.entries) - 1


def room_of(record, person):
    """How many more steps a person may sign."""
    return record.plan.mosts[person] - record.signers.count(person)


def may_do(record, person, step):
    """Whether a person is not absent and has one of the step's roles."""
    if record.absent[person]:
        return False
    wanted = record.plan.step_roles[step]
    return any([role in wanted for role in record.plan.person_roles[person]])


def partner_signers(record, word, step):
    """Who signed the signed ones of the steps that are told unlike, or alike, this one."""
    signers = [record.signers[other] for other in partners(record.plan.pairs[word], step)]
    return [signer for signer in signers if signer is not None]


def goes_with(record, person, step):
    """Whether a person at a step that is not signed goes with what is signed."""
    if person in partner_signers(record, "unlike", step):
        return False
    if any([signer != person for signer in partner_signers(record, "alike", step)]):
        return False
    return room_of(record, person) > 0
