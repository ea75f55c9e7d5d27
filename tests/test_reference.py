"""Many small plans against a plain reading of the document, and against all ways to put crews."""

import itertools
import random
import unittest

from helper import BACK, LEAST, apart, begin, changes, covers, run, shift


def small_plan(source, most_shifts, most_level):
    h = source.randint(1, 14)
    minutes = sorted(source.sample(range(h), source.randint(0, min(h, 4))))
    levels = [(minute, source.randint(0, most_level)) for minute in minutes]
    shifts = []
    for k in range(source.randint(0, most_shifts)):
        a = source.randint(0, h - 1)
        shifts.append((a, source.randint(a + 1, h)))
    if source.random() < 0.5:
        shifts.append((0, h))
    return h, levels, shifts


def as_calls(h, levels, shifts):
    return [begin(h), changes(*[number for level in levels for number in level]), *[shift(a, b) for a, b in shifts]]


def needs_of(h, levels):
    needs = [0] * h
    for minute, level in levels:
        needs[minute:] = [level] * (h - minute)
    return needs


def there(shifts, crews, minute):
    return sum(crews[j] for j, (a, b) in enumerate(shifts) if minute in range(a, b))


def wanted(h, levels, shifts, from_the_right):
    needs = needs_of(h, levels)
    marks = {0, *[minute for minute, level in levels], *itertools.chain(*shifts)}
    crews = dict.fromkeys(range(len(shifts)), 0)
    short = []
    for point in sorted(marks & set(range(h)), reverse=from_the_right):
        missing = needs[point] - there(shifts, crews, point)
        if missing > 0:
            having = [j for j, (a, b) in enumerate(shifts) if point in range(a, b)]
            if not having:
                return [-7]
            j = min(having, key=lambda j: (shifts[j][0] if from_the_right else -shifts[j][1], j))
            crews[j] += missing
            short.insert(0, (point, j))
    taken = []
    for point, j in short:
        if not set(taken) & set(range(*shifts[j])):
            taken.append(point)
    some = [(j, count) for j, count in crews.items() if count]
    return [sum(crews.values()), len(some), *itertools.chain(*some), len(taken), *sorted(taken)]


class Reference(unittest.TestCase):
    def test_least_and_back(self):
        source = random.Random(1)
        for k in range(3000):
            plan = small_plan(source, 6, 5)
            told = run(*as_calls(*plan), LEAST, BACK)
            self.assertEqual(told[-2:], [wanted(*plan, False), wanted(*plan, True)], plan)

    def test_witness_proves_the_crews(self):
        source = random.Random(2)
        for k in range(1000):
            plan = small_plan(source, 6, 5)
            calls = as_calls(*plan)
            for answer in run(*calls, LEAST, BACK)[-2:]:
                if answer != [-7]:
                    end = 2 + 2 * answer[1]
                    told = run(*calls, covers(*answer[2:end]), apart(*answer[end + 1:]))
                    self.assertEqual(told[-2:], [[0, answer[0]], [0, answer[0]]], plan)

    def test_no_fewer_crews_do(self):
        source = random.Random(3)
        for k in range(300):
            h, levels, shifts = small_plan(source, 3, 3)
            needs = needs_of(h, levels)
            doing = [sum(crews) for crews in itertools.product(range(4), repeat=len(shifts))
                     if all(there(shifts, crews, minute) >= needs[minute] for minute in range(h))]
            told = run(*as_calls(h, levels, shifts), LEAST, BACK)
            fewest = min(doing) if doing else -7
            self.assertEqual([answer[0] for answer in told[-2:]], [fewest, fewest], (h, levels, shifts))

    def test_covers(self):
        source = random.Random(4)
        for k in range(2000):
            h, levels, shifts = small_plan(source, 5, 3)
            numbers = source.sample(range(len(shifts)), source.randint(0, len(shifts)))
            crews = dict.fromkeys(range(len(shifts)), 0)
            crews.update({j: source.randint(0, 3) for j in numbers})
            row = [number for j in numbers for number in (j, crews[j])]
            needs = needs_of(h, levels)
            lacking = [[1, minute, needs[minute] - there(shifts, crews, minute)] for minute in range(h)
                       if needs[minute] > there(shifts, crews, minute)]
            right = lacking[0] if lacking else [0, sum(crews.values())]
            self.assertEqual(run(*as_calls(h, levels, shifts), covers(*row))[-1], right, (h, levels, shifts, row))

    def test_apart(self):
        source = random.Random(5)
        for k in range(2000):
            h, levels, shifts = small_plan(source, 5, 9)
            row = source.sample(range(h), source.randint(0, min(h, 4)))
            right = [0, sum(needs_of(h, levels)[minute] for minute in row)]
            for j, (a, b) in reversed(list(enumerate(shifts))):
                had = [minute for minute in row if minute in range(a, b)]
                if len(had) > 1:
                    right = [1, j, *had[:2]]
            self.assertEqual(run(*as_calls(h, levels, shifts), apart(*row))[-1], right, (h, levels, shifts, row))


if __name__ == "__main__":
    unittest.main()
