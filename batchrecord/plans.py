"""A plan: what a text's lines say, with roles, persons and steps by their numbers."""

UNTOLD_MOST = 99
PAIR_WORDS = ("after", "unlike", "alike")


class Plan:
    """The names stand at their numbers; role lists rise; each pair holds two steps' numbers."""

    def __init__(self):
        self.roles = []
        self.persons = []
        self.steps = []
        self.person_roles = []
        self.step_roles = []
        self.mosts = []
        self.pairs = {"after": [], "unlike": [], "alike": []}


def partners(pairs, step):
    """The steps that stand in a pair with this one."""
    others = []
    for first, second in pairs:
        if first == step:
            others.append(second)
        if second == step:
            others.append(first)
    return others


def told_before(plan, step):
    """The steps that this one is told to come after."""
    return [earlier for later, earlier in plan.pairs["after"] if later == step]


def comes_after(plan, later, earlier):
    """Whether one step comes after another by what is told, in however many pairs."""
    reached = [later]
    place = 0
    while place < len(reached):
        before = told_before(plan, reached[place])
        for step in before:
            if step not in reached:
                reached.append(step)
        place += 1
    return earlier in reached
