"""Reading a plan out of a text's lines, and what is wrong with a line."""

from batchrecord.plans import PAIR_WORDS, UNTOLD_MOST, comes_after

LETTERS = "abcdefghijklmnopqrstuvwxyz"
DIGITS = "0123456789"
FIRST_LETTER = 97
FIRST_DIGIT = 48
BLANK = 32
LINE_END = 10
LONGEST_NAME = 12
MOST_ROLES = 8
MOST_PERSONS = 7
MOST_STEPS = 7
MOST_PAIRS = 12

NO_SUCH_LINE = 1
TOLD_ALREADY = 2
NOT_TOLD = 3
TURNS_ON_ITSELF = 4
TOO_MANY = 5


def sign_of(byte):
    """The sign of a byte; all that no right word holds is a question mark, as no right word holds that."""
    if byte == BLANK:
        return " "
    if byte == LINE_END:
        return "\n"
    if FIRST_LETTER <= byte < FIRST_LETTER + len(LETTERS):
        return LETTERS[byte - FIRST_LETTER]
    if FIRST_DIGIT <= byte < FIRST_DIGIT + len(DIGITS):
        return DIGITS[byte - FIRST_DIGIT]
    return "?"


def lines_of(text):
    """The words of each line of a text of bytes."""
    signs = "".join([sign_of(byte) for byte in text])
    return [line.split() for line in signs.split("\n")]


def is_name(word):
    """Whether a word is a NAME."""
    if len(word) > LONGEST_NAME or word[0] not in LETTERS:
        return False
    return all([sign in LETTERS or sign in DIGITS for sign in word])


def are_names(words):
    """Whether each of the words is a NAME."""
    return all([is_name(word) for word in words])


def is_most(word):
    """Whether a word is an N: 0 to 99, with no zero in front of another digit."""
    if len(word) > 2 or not all([sign in DIGITS for sign in word]):
        return False
    return len(word) == 1 or word[0] != "0"


def has_form(words):
    """Whether the words make one of the seven lines, whatever their names stand for."""
    if words[0] == "role":
        return len(words) == 2 and is_name(words[1])
    if words[0] == "person":
        return len(words) >= 2 and are_names(words[1:])
    if words[0] == "step":
        return len(words) >= 4 and is_name(words[1]) and words[2] == "by" and are_names(words[3:])
    if words[0] in PAIR_WORDS:
        return len(words) == 3 and are_names(words[1:])
    if words[0] == "most":
        return len(words) == 3 and is_name(words[1]) and is_most(words[2])
    return False


def wrong_newcomer(names, most, words, known, wanted):
    """What is wrong with a line that tells a new role, person or step, 0 if nothing."""
    if words[1] in names:
        return TOLD_ALREADY
    if not all([name in known for name in wanted]):
        return NOT_TOLD
    return TOO_MANY if len(names) == most else 0


def pair_of(plan, words):
    """The steps of a pair's line: as told for after, the lesser number first for the others."""
    first = plan.steps.index(words[1])
    second = plan.steps.index(words[2])
    if words[0] == "after":
        return (first, second)
    return (min(first, second), max(first, second))


def wrong_pair(plan, words):
    """What is wrong with a line that tells a pair, 0 if nothing."""
    if words[1] not in plan.steps or words[2] not in plan.steps:
        return NOT_TOLD
    pair = pair_of(plan, words)
    told = plan.pairs[words[0]]
    if pair[0] == pair[1]:
        return TURNS_ON_ITSELF
    if pair in told:
        return TOLD_ALREADY
    if words[0] == "after" and comes_after(plan, pair[1], pair[0]):
        return TURNS_ON_ITSELF
    return TOO_MANY if len(told) == MOST_PAIRS else 0


def wrong_kind(plan, words):
    """The kind of what is wrong with a line behind those that the plan holds, 0 if nothing."""
    if not has_form(words):
        return NO_SUCH_LINE
    if words[0] == "role":
        return wrong_newcomer(plan.roles, MOST_ROLES, words, plan.roles, [])
    if words[0] == "person":
        return wrong_newcomer(plan.persons, MOST_PERSONS, words, plan.roles, words[2:])
    if words[0] == "step":
        return wrong_newcomer(plan.steps, MOST_STEPS, words, plan.roles, words[3:])
    if words[0] == "most":
        return 0 if words[1] in plan.persons else NOT_TOLD
    return wrong_pair(plan, words)


def role_numbers(plan, names):
    """The numbers of the named roles, rising, each once."""
    return sorted(set([plan.roles.index(name) for name in names]))


def tell(plan, words):
    """Take a line that is not wrong into the plan."""
    if words[0] == "role":
        plan.roles.append(words[1])
    elif words[0] == "person":
        plan.persons.append(words[1])
        plan.person_roles.append(role_numbers(plan, words[2:]))
        plan.mosts.append(UNTOLD_MOST)
    elif words[0] == "step":
        plan.steps.append(words[1])
        plan.step_roles.append(role_numbers(plan, words[3:]))
    elif words[0] == "most":
        plan.mosts[plan.persons.index(words[1])] = int(words[2])
    else:
        plan.pairs[words[0]].append(pair_of(plan, words))


def tell_text(plan, text):
    """Take a text into an empty plan up to its first wrong line: 100 times that line plus its kind, or 0."""
    for number, words in enumerate(lines_of(text), start=1):
        if words:
            kind = wrong_kind(plan, words)
            if kind > 0:
                return 100 * number + kind
            tell(plan, words)
    return 0
