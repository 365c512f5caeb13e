"""Writing a plan down: as a text, and by the names in it."""

from batchrecord.plans import PAIR_WORDS, UNTOLD_MOST


def listed(numbers):
    """A text or a list as it stands in an answer."""
    return [len(numbers)] + numbers


def bytes_of(signs):
    """The bytes of signs."""
    return [ord(sign) for sign in signs]


def role_names(plan, roles):
    """The names of roles told by number."""
    return [plan.roles[role] for role in roles]


def person_lines(plan):
    """The words of the persons' lines, then of the lines of each most that is not the untold one."""
    lines = []
    for name, roles in zip(plan.persons, plan.person_roles):
        lines.append(["person", name] + role_names(plan, roles))
    for name, most in zip(plan.persons, plan.mosts):
        if most != UNTOLD_MOST:
            lines.append(["most", name, str(most)])
    return lines


def step_lines(plan):
    """The words of the steps' lines, then of the pairs' lines."""
    lines = []
    for name, roles in zip(plan.steps, plan.step_roles):
        lines.append(["step", name, "by"] + role_names(plan, roles))
    for word in PAIR_WORDS:
        for first, second in plan.pairs[word]:
            lines.append([word, plan.steps[first], plan.steps[second]])
    return lines


def shown_text(plan):
    """The plan as bytes."""
    lines = [["role", name] for name in plan.roles] + person_lines(plan) + step_lines(plan)
    text = []
    for words in lines:
        text.extend(bytes_of(" ".join(words) + "\n"))
    return text


def shown_names(plan):
    """The roles, persons and steps of a plan as they stand in an answer."""
    answer = [len(plan.roles)]
    for name in plan.roles:
        answer.extend(listed(bytes_of(name)))
    answer.append(len(plan.persons))
    for name, roles, most in zip(plan.persons, plan.person_roles, plan.mosts):
        answer.extend(listed(bytes_of(name)) + listed(roles) + [most])
    answer.append(len(plan.steps))
    for name, roles in zip(plan.steps, plan.step_roles):
        answer.extend(listed(bytes_of(name)) + listed(roles))
    return answer
