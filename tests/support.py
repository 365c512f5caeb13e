"""Calls and answers for the tests, written as the document words them."""

from batchrecord.record import answers

LEAST = -9223372036854775808
GREATEST = 9223372036854775807


def load(text):
    """A load call; the text is a str of Latin letters or a list of numbers."""
    numbers = list(text.encode("latin-1")) if isinstance(text, str) else list(text)
    return [0, len(numbers)] + numbers


def shown():
    return [1]


def sign(step, person):
    return [2, step, person]


def absent(person, away):
    return [3, person, away]


def plan():
    return [4]


def core():
    return [5]


def needed():
    return [6]


def who(step):
    return [7, step]


def amend(entry, person, text):
    return [8, entry, person, len(text)] + list(text)


def view(count):
    return [9, count]


def history(entry):
    return [10, entry]


def may(step, person):
    return [11, step, person]


def released():
    return [12]


def ways():
    return [13]


def names():
    return [14]


def free(persons, steps, more=""):
    """A load of persons p0.. and steps s0.. of one role, and more lines."""
    lines = "".join(f"person p{k} op\n" for k in range(persons)) + "".join(f"step s{k} by op\n" for k in range(steps))
    return load("role op\n" + lines + more)


def ask(*calls):
    """Hand the calls over as one list, and part the answers again."""
    numbers = []
    for call in calls:
        numbers += call
    return parted(answers(numbers))


def parted(numbers):
    """The answers call by call, from the list in which each has its count ahead of it."""
    found = []
    place = 0
    while place < len(numbers):
        behind = place + 1 + numbers[place]
        if behind > len(numbers) or behind == place + 1:
            raise ValueError("a count that does not fit: " + repr(numbers))
        found.append(numbers[place + 1:behind])
        place = behind
    return found


def last(*calls):
    """The answer to the last of the calls."""
    return ask(*calls)[-1]


def text_answer(text):
    """A text as it stands in an answer."""
    return [len(text)] + list(text.encode("ascii"))


# A record that several of the tests sign, with its persons and steps by name.
ANN, BOB, CID, DAN = range(4)
MIX, FILL, CHECK, PACK = range(4)
BATCH = load(
    "role op\nrole qa\n"
    "person ann op\nperson bob op qa\nperson cid qa\nperson dan\nmost bob 2\n"
    "step mix by op\nstep fill by op\nstep check by qa\nstep pack by op qa\n"
    "after fill mix\nafter check fill\nunlike mix check\nalike mix fill\n")
