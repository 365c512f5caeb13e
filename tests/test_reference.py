"""The program beside a plain reading of the document that tries every way, on many small made-up records."""

import itertools
import random
import unittest

from tests.support import (absent, amend, ask, core, history, load, may, names, needed, plan, released, sign,
                           text_answer, view, ways, who)


class Reference:
    """A record whose questions are answered by going through all ways there are."""

    def __init__(self, source):
        self.roles = source.randint(1, 3)
        self.persons = [self.some_roles(source, 0) for each in range(source.randint(1, 4))]
        self.steps = [self.some_roles(source, 1) for each in range(source.randint(1, 5))]
        self.mosts = [source.choice([0, 1, 1, 2, 2, 3, 99, 99]) for each in self.persons]
        couples = list(itertools.combinations(range(len(self.steps)), 2))
        self.unlike = [pair for pair in couples if source.random() < 0.25]
        self.alike = [pair for pair in couples if source.random() < 0.12]
        self.after = [(high, low) for low, high in couples if source.random() < 0.12]
        self.absent = set()
        self.signers = {}
        self.entries = []

    def some_roles(self, source, fewest):
        return sorted(source.sample(range(self.roles), source.randint(fewest, self.roles)))

    def text(self):
        lines = [f"role r{k}" for k in range(self.roles)]
        lines += [" ".join([f"person p{k}"] + [f"r{role}" for role in has]) for k, has in enumerate(self.persons)]
        lines += [f"most p{k} {most}" for k, most in enumerate(self.mosts)]
        lines += [" ".join([f"step s{k} by"] + [f"r{role}" for role in by]) for k, by in enumerate(self.steps)]
        for word, pairs in (("after", self.after), ("unlike", self.unlike), ("alike", self.alike)):
            lines += [f"{word} s{first} s{second}" for first, second in pairs]
        return "\n".join(lines)

    def unsigned(self):
        return [step for step in range(len(self.steps)) if step not in self.signers]

    def may_do(self, step, person):
        return person not in self.absent and bool(set(self.persons[person]) & set(self.steps[step]))

    def as_told(self, given):
        counts = [list(given.values()).count(person) for person in range(len(self.persons))]
        return (all(given[a] != given[b] for a, b in self.unlike if a in given and b in given)
                and all(given[a] == given[b] for a, b in self.alike if a in given and b in given)
                and all(count <= most for count, most in zip(counts, self.mosts)))

    def ways(self, steps):
        for persons in itertools.product(range(len(self.persons)), repeat=len(steps)):
            pairs = list(zip(steps, persons))
            if all(self.may_do(*pair) for pair in pairs) and self.as_told({**self.signers, **dict(pairs)}):
                yield persons

    def can_fill(self, steps):
        return any(True for way in self.ways(steps))

    def can_be_ended(self):
        return self.can_fill(self.unsigned())

    def barred(self, step, person):
        if step in self.signers:
            return 1
        if any(low not in self.signers for high, low in self.after if high == step):
            return 2
        if not self.may_do(step, person):
            return 3
        if not self.as_told({**self.signers, step: person}):
            return 4
        self.signers[step] = person
        ended = self.can_be_ended()
        del self.signers[step]
        return 0 if ended else 5

    def sign(self, step, person):
        bar = self.barred(step, person)
        if bar:
            return [-10 - bar]
        self.signers[step] = person
        return self.put(0, step, person, [])

    def put(self, *entry):
        self.entries.append(entry)
        return [len(self.entries) - 1]

    def signatures(self):
        return [number for number, entry in enumerate(self.entries) if entry[0] == 0]

    def amend(self, number, person, text):
        if number not in self.signatures() or person not in range(len(self.persons)):
            return [-1]
        if person in self.absent:
            return [-13]
        if self.entries[number][2] == person:
            return [-14]
        return self.put(1, number, person, text)

    def view(self, count):
        if count > len(self.entries):
            return [-1]
        texts = {}
        for number, (kind, target, person, text) in enumerate(self.entries[:count]):
            texts[number] = text
            if kind == 1:
                texts[target] = text
        answer = [count]
        for number, (kind, target, person, text) in enumerate(self.entries[:count]):
            answer += [kind, target, person, len(texts[number])] + texts[number]
        return answer

    def history(self, number):
        if number not in self.signatures():
            return [-1]
        found = [each for each, entry in enumerate(self.entries) if entry[:2] == (1, number)]
        return [len(found)] + found

    def names(self):
        answer = [self.roles]
        for k in range(self.roles):
            answer += text_answer(f"r{k}")
        answer += [len(self.persons)]
        for k, has in enumerate(self.persons):
            answer += text_answer(f"p{k}") + [len(has)] + has + [self.mosts[k]]
        answer += [len(self.steps)]
        for k, by in enumerate(self.steps):
            answer += text_answer(f"s{k}") + [len(by)] + by
        return answer + [len(self.absent)] + sorted(self.absent)

    def set_absent(self, person, away):
        (self.absent.add if away else self.absent.discard)(person)
        return [int(self.can_be_ended())]

    def plan(self):
        steps = self.unsigned()
        for way in self.ways(steps):
            return [len(steps)] + [number for pair in zip(steps, way) for number in pair]
        return [-4]

    def core(self):
        steps = self.unsigned()
        if self.can_be_ended():
            return [-4]
        for size in range(len(steps) + 1):
            for some in itertools.combinations(steps, size):
                if not self.can_fill(some):
                    return [size, *some]

    def needed(self):
        if not self.unsigned():
            return [-4]
        here = [person for person in range(len(self.persons)) if person not in self.absent]
        absent_now = self.absent
        for size in range(len(here) + 1):
            for some in itertools.combinations(here, size):
                self.absent = absent_now | set(some)
                ended = self.can_be_ended()
                self.absent = absent_now
                if not ended:
                    return [size, *some]

    def who(self, step):
        free = [person for person in range(len(self.persons)) if self.barred(step, person) == 0]
        return [len(free)] + free


def made_up(source):
    """Calls on a made-up record, and what the reference answers to each."""
    record = Reference(source)
    calls = [load(record.text())]
    if not record.can_be_ended():
        return calls, [[-7]]
    expected = [[record.roles, len(record.persons), len(record.steps)]]
    for turn in range(9):
        step = source.randrange(len(record.steps))
        person = source.randrange(len(record.persons))
        kind = source.random()
        if kind < 0.3:
            number = source.randint(-1, len(record.entries))
            text = [source.randint(0, 255) for each in range(source.randint(0, 3))]
            calls.append(amend(number, person, text))
            expected.append(record.amend(number, person, text))
        elif kind < 0.5:
            away = source.randint(0, 1)
            calls.append(absent(person, away))
            expected.append(record.set_absent(person, away))
        else:
            calls.append(sign(step, person))
            expected.append(record.sign(step, person))
        calls += [plan(), core(), needed(), who(step), may(step, person), ways(), released()]
        expected += [record.plan(), record.core(), record.needed(), record.who(step), [record.barred(step, person)],
                     [len(list(record.ways(record.unsigned())))], [int(not record.unsigned())]]
    for number in range(len(record.entries) + 2):
        calls += [view(number), history(number)]
        expected += [record.view(number), record.history(number)]
    return calls + [names()], expected + [record.names()]


class BesideTheReference(unittest.TestCase):
    def test_made_up_records(self):
        source = random.Random(46)
        refused = 0
        for turn in range(400):
            calls, expected = made_up(source)
            refused += expected == [[-7]]
            self.assertEqual(ask(*calls), expected, bytes(calls[0][2:]).decode())
        self.assertGreater(refused, 40)
        self.assertLess(refused, 360)


if __name__ == "__main__":
    unittest.main()
