"""Many lines of calls, all sixteen together, against a plain reading of the document minute by minute."""

import random
import unittest

from helper import BACK, HUGE, LEAST, TOLD, apart, begin, changes, covers, hours, ill, need, people, rest, roster, run
from helper import shift, shortage, there


class Refused(Exception):
    pass


def demand(holds, refusal):
    if not holds:
        raise Refused(refusal)


class Model:
    """Answers calls slowly: everything is looked up for each minute."""

    def __init__(self):
        self.begin(1440, 0)

    def answer(self, call):
        place, count = call[:2]
        numbers = call[2:2 + count]
        rows = []
        at = 3 + count
        for k in range(call[2 + count]):
            rows.append(call[at + 1:at + 1 + call[at]])
            at += 1 + call[at]
        names = ("begin", "changes", "shift", "set_rest", "least", "back", "covers", "apart", "people", "roster",
                 "need", "there", "shortage", "ill", "hours", "told")
        handed = [*numbers, rows] if place == 9 else [*numbers, *rows]
        try:
            return getattr(self, names[place])(*handed)
        except Refused as refused:
            return [refused.args[0]]

    def begin(self, h, minutes):
        demand(h in range(1, 1000001) and minutes in range(1000001), -1)
        self.h = h
        self.rest = minutes
        self.levels = {}
        self.shifts = []
        return [0]

    def changes(self, row):
        demand(len(row) % 2 == 0 and len(row) <= 200, -2)
        minutes, levels = row[::2], row[1::2]
        demand(all(t in range(self.h) for t in minutes) and all(level in range(1001) for level in levels), -2)
        demand(minutes == sorted(set(minutes)), -2)
        self.levels = dict(zip(minutes, levels))
        return [0]

    def shift(self, a, b):
        demand(a in range(self.h + 1) and b in range(self.h + 1), -1)
        demand(b > a, -4)
        demand(len(self.shifts) < 60, -6)
        self.shifts.append(range(a, b))
        return [len(self.shifts) - 1]

    def set_rest(self, minutes):
        demand(minutes in range(1000001), -1)
        self.rest = minutes
        return [0]

    def needs(self):
        level = 0
        told = []
        for t in range(self.h):
            level = self.levels.get(t, level)
            told.append(level)
        return told

    def crews(self, row):
        demand(len(row) % 2 == 0, -2)
        demand(all(j in range(len(self.shifts)) for j in row[::2]), -2)
        demand(all(count in range(1001) for count in row[1::2]), -2)
        demand(len(set(row[::2])) == len(row) // 2, -2)
        return dict(zip(row[::2], row[1::2]))

    def missing(self, crews):
        return [max(0, level - sum(count for j, count in crews.items() if t in self.shifts[j]))
                for t, level in enumerate(self.needs())]

    def marks(self):
        every = {0, *self.levels, *[m for minutes in self.shifts for m in (minutes.start, minutes.stop)]}
        return sorted(every & set(range(self.h)))

    def fewest(self, needs, falling=False):
        demand(all(any(t in minutes for minutes in self.shifts) for t in range(self.h) if needs[t]), -7)
        crews = {}
        short = {}
        for t in sorted(self.marks(), reverse=falling):
            lacking = needs[t] - sum(count for j, count in crews.items() if t in self.shifts[j])
            if lacking > 0:
                ranks = [(m.start if falling else -m.stop, j) for j, m in enumerate(self.shifts) if t in m]
                short[t] = min(ranks)[1]
                crews[short[t]] = crews.get(short[t], 0) + lacking
        taken = []
        for t in sorted(short, reverse=not falling):
            if not any(other in self.shifts[short[t]] for other in taken):
                taken.append(t)
        pairs = [number for j in sorted(crews) for number in (j, crews[j])]
        return [sum(crews.values()), len(crews), *pairs, len(taken), *sorted(taken)]

    def least(self):
        return self.fewest(self.needs())

    def back(self):
        return self.fewest(self.needs(), falling=True)

    def covers(self, row):
        crews = self.crews(row)
        for t, count in enumerate(self.missing(crews)):
            if count:
                return [1, t, count]
        return [0, sum(crews.values())]

    def apart(self, row):
        demand(all(t in range(self.h) for t in row) and len(set(row)) == len(row), -2)
        for j, minutes in enumerate(self.shifts):
            had = [t for t in row if t in minutes]
            if len(had) > 1:
                return [1, j, *had[:2]]
        needs = self.needs()
        return [0, sum(needs[t] for t in row)]

    def people(self, row):
        crews = self.crews(row)
        demand(sum(crews.values()) <= 300, -11)
        persons = []
        for a, j in sorted((self.shifts[j].start, j) for j in crews for k in range(crews[j])):
            fit = [person for person in persons if self.shifts[person[-1]].stop + self.rest <= a]
            if fit:
                fit[0].append(j)
            else:
                persons.append([j])
        minute = self.shifts[persons[-1][0]].start if persons else 0
        return [len(persons), minute, *[number for person in persons for number in (len(person), *person)]]

    def roster(self, rows):
        every = [j for row in rows for j in row]
        demand(all(j in range(len(self.shifts)) for j in every), -2)
        for person, row in enumerate(rows):
            for k, (former, j) in enumerate(zip(row, row[1:]), 1):
                if self.shifts[j].start - self.shifts[former].stop < self.rest:
                    return [1, person, k]
        return [0, len(rows), *[every.count(j) for j in range(len(self.shifts))]]

    def need(self, t):
        demand(t in range(self.h), -1)
        return [self.needs()[t]]

    def there(self, t, row):
        demand(t in range(self.h), -1)
        crews = self.crews(row)
        held = {j: range(minutes.start, minutes.stop + self.rest) for j, minutes in enumerate(self.shifts)}
        return [sum(crews[j] for j in crews if t in self.shifts[j]), sum(crews[j] for j in crews if t in held[j])]

    def shortage(self, n):
        demand(n in range(100001), -1)
        why = []
        for k in range(1001):
            needs = [max(0, level - k) for level in self.needs()]
            gaps = [t for t in self.marks() if needs[t] and not any(t in minutes for minutes in self.shifts)]
            if gaps:
                why = gaps[:1]
                continue
            told = self.fewest(needs)
            if told[0] <= n:
                return [k, len(why), *why]
            why = told[3 + 2 * told[1]:]
        raise AssertionError("at 1000 fewer nobody is needed")

    def ill(self, j, k, row):
        demand(j in range(len(self.shifts)) and k in range(1, 1001), -1)
        crews = self.crews(row)
        demand(crews.get(j, 0) >= k, -3)
        return self.fewest(self.missing({**crews, j: crews[j] - k}))

    def hours(self, row):
        return [sum(count * len(self.shifts[j]) for j, count in self.crews(row).items())]

    def told(self):
        levels = [number for level in sorted(self.levels.items()) for number in level]
        ends = [number for minutes in self.shifts for number in (minutes.start, minutes.stop)]
        return [self.h, self.rest, len(self.levels), *levels, len(self.shifts), *ends]


class Writer:
    """Writes calls by chance; most of them are not refused."""

    def __init__(self, seed):
        self.source = random.Random(seed)
        self.h = 1440
        self.count = 0

    def odd(self):
        return self.source.random() < 0.05

    def number(self, low, high):
        if self.odd():
            return self.source.choice((low - 1, high + 1, -HUGE, HUGE, low, high))
        return self.source.randint(low, max(low, high))

    def begin(self):
        self.h = self.source.randint(1, 30)
        self.count = 0
        return begin(self.h, self.source.choice((0, 0, 1, 2, 5, 1000000)))

    def wrong_begin(self):
        return begin(*self.source.choice(((0, 0), (5, -1), (1000001, 0), (5, 1000001))))

    def changes(self):
        minutes = sorted(self.source.sample(range(self.h), self.source.randint(0, min(self.h, 5))))
        row = [number for t in minutes for number in (t, self.number(0, self.source.choice((3, 9))))]
        return changes(*self.spoilt(row))

    def shift(self):
        self.count = min(60, self.count + 1)
        a = self.source.randint(0, self.h - 1)
        if self.odd():
            return shift(self.number(0, self.h), self.number(0, self.h))
        return shift(a, self.source.randint(a + 1, self.h))

    def spoilt(self, row):
        if row and self.odd():
            row = list(row)
            row[self.source.randrange(len(row))] = self.source.choice((-1, 0, 1, 1001, HUGE, -HUGE))
        if self.odd():
            row = [*row, self.source.randint(0, 3)]
        return row

    def crews(self):
        numbers = self.source.sample(range(self.count), self.source.randint(0, min(self.count, 6)))
        most = self.source.choice((1, 1, 2, 2, 4, 4, 4, 200))
        return self.spoilt([number for j in numbers for number in (j, self.source.randint(0, most))])

    def minutes(self):
        row = self.source.sample(range(self.h), self.source.randint(0, min(self.h, 4)))
        return self.spoilt(row)

    def rows(self):
        rows = [[self.source.randrange(max(1, self.count)) for k in range(self.source.choice((0, 1, 1, 2, 2, 3)))]
                for person in range(self.source.randint(0, 4))]
        return [self.spoilt(row) if self.odd() else row for row in rows]

    def ill(self):
        row = self.crews()
        if row and not self.odd():
            j = self.source.choice(row[::2])
            return ill(j, self.number(1, 2), *row)
        return ill(self.number(0, self.count), self.number(1, 2), *row)

    def question(self):
        return self.source.choice((
            lambda: LEAST, lambda: BACK, lambda: TOLD,
            lambda: covers(*self.crews()), lambda: apart(*self.minutes()), lambda: people(*self.crews()),
            lambda: roster(*self.rows()), lambda: need(self.number(0, self.h - 1)),
            lambda: there(self.number(0, self.h - 1), *self.crews()),
            lambda: shortage(self.source.choice((self.number(0, 12), 0, 100000, 100001))),
            self.ill, lambda: hours(*self.crews())))()

    def change(self):
        kinds = (self.shift, self.shift, self.changes, lambda: rest(self.number(0, 6)), self.wrong_begin)
        return self.source.choice(kinds)()

    def line(self):
        """A line of calls; the number of shifts may be told too great, so that some lists name ones there aren't."""
        calls = [self.begin(), self.changes(), *[self.shift() for k in range(self.source.randint(0, 6))]]
        for k in range(self.source.randint(5, 25)):
            fate = self.source.random()
            if fate < 0.03:
                calls.append(self.begin())
            else:
                calls.append(self.change() if fate < 0.25 else self.question())
        return calls


class Lines(unittest.TestCase):
    def test_all_sixteen_together(self):
        seen = {}
        for seed in range(1500):
            calls = Writer(seed).line()
            model = Model()
            for call, told in zip(calls, run(*calls), strict=True):
                right = model.answer(call)
                self.assertEqual(told, right, (seed, call))
                kind = right[0] if right[0] < 0 else "answered"
                seen[call[0], kind] = seen.get((call[0], kind), 0) + 1
        self.assert_all_are_tried(seen)

    def assert_all_are_tried(self, seen):
        """Each call is answered, and refused in each way but -6 (60 shifts are tried elsewhere), many a time."""
        refusals = {0: (-1,), 1: (-2,), 2: (-1, -4), 3: (-1,), 4: (-7,), 5: (-7,), 6: (-2,), 7: (-2,), 8: (-2, -11),
                    9: (-2,), 10: (-1,), 11: (-1, -2), 12: (-1,), 13: (-1, -2, -3, -7), 14: (-2,), 15: ()}
        for place, kinds in refusals.items():
            for kind in ("answered", *kinds):
                self.assertGreaterEqual(seen.get((place, kind), 0), 5, (place, kind))

    def test_people_are_as_many_as_at_the_minute_told(self):
        for seed in range(300):
            writer = Writer(seed)
            calls = writer.line()
            h = writer.h
            row = writer.crews()
            told = run(*calls, people(*row), *[there(t, *row) for t in range(h)])[len(calls):]
            if told[0][0] >= 0:
                self.assertEqual(told[0][0], max(both[1] for both in told[1:]), seed)
                self.assertEqual(told[0][0], told[1 + told[0][1]][1], seed)


if __name__ == "__main__":
    unittest.main()
