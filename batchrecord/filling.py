"""Whether each of some steps can be given one of its persons.

Options are a dict: for each step that wants a person, the persons it can still be given, rising. Rooms are a list:
at each person's number how many more steps they may have.
"""

from batchrecord.plans import partners


class Part:
    """Steps that must all have the same person, and the persons whom they can be given."""

    def __init__(self, steps, persons):
        self.steps = steps
        self.persons = persons


def share_any(some, others):
    """Whether two lists have a member in common."""
    return any([member in others for member in some])


def alike_steps(plan, steps):
    """The steps in lists, those together that are told alike in however many pairs."""
    lists = []
    for step in steps:
        tied = partners(plan.pairs["alike"], step)
        together = [step]
        apart = []
        for each in lists:
            if share_any(each, tied):
                together.extend(each)
            else:
                apart.append(each)
        lists = apart + [together]
    return lists


def unlike_steps(plan, steps):
    """The steps that are told unlike one of these."""
    others = []
    for step in steps:
        others.extend(partners(plan.pairs["unlike"], step))
    return others


def part_of(plan, options, rooms, steps):
    """The part that these alike steps make."""
    if share_any(steps, unlike_steps(plan, steps)):
        return Part(steps, [])
    able = [person for person in options[steps[0]] if rooms[person] >= len(steps)]
    for step in steps:
        able = [person for person in able if person in options[step]]
    return Part(steps, able)


def parts_behind(plan, parts, taken, person, room):
    """The other parts once one is taken by a person, who then has this much room."""
    unlike = unlike_steps(plan, taken.steps)
    others = []
    for part in parts:
        if part.steps != taken.steps:
            persons = part.persons
            if room < len(part.steps) or share_any(part.steps, unlike):
                persons = [each for each in persons if each != person]
            others.append(Part(part.steps, persons))
    return others


def can_fill_parts(plan, parts, rooms):
    """Whether each part can be given one of its persons, nobody beyond their room.

    The part with the fewest persons goes first, so that a dead end shows early. This calls itself
    once for each part at most, so never more than seven deep.
    """
    if not parts:
        return True
    part = min(parts, key=lambda each: len(each.persons))
    for person in part.persons:
        left = list(rooms)
        left[person] -= len(part.steps)
        if can_fill_parts(plan, parts_behind(plan, parts, part, person, left[person]), left):
            return True
    return False


def can_fill(plan, options, rooms):
    """Whether each step can be given one of its persons, with the pairs as told and nobody beyond their room."""
    # Parts, not steps: alike steps that no one person can have would else be found out again for each way to
    # give the steps before them.
    parts = [part_of(plan, options, rooms, steps) for steps in alike_steps(plan, list(options))]
    return can_fill_parts(plan, parts, rooms)
