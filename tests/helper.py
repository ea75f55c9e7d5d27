"""Writes calls in the form that `crewshifts.plan.answers` takes, and parts what it answers."""

from crewshifts.plan import answers

HUGE = 1000000000000000000


def begin(h, rest=0):
    return [0, 2, h, rest, 0]


def changes(*row):
    return [1, 0, 1, len(row), *row]


def shift(a, b):
    return [2, 2, a, b, 0]


def rest(minutes):
    return [3, 1, minutes, 0]


def covers(*row):
    return [6, 0, 1, len(row), *row]


def apart(*row):
    return [7, 0, 1, len(row), *row]


def people(*row):
    return [8, 0, 1, len(row), *row]


def roster(*rows):
    return [9, 0, len(rows), *[number for row in rows for number in (len(row), *row)]]


def need(t):
    return [10, 1, t, 0]


def there(t, *row):
    return [11, 1, t, 1, len(row), *row]


def shortage(n):
    return [12, 1, n, 0]


def ill(j, k, *row):
    return [13, 2, j, k, 1, len(row), *row]


def hours(*row):
    return [14, 0, 1, len(row), *row]


LEAST = [4, 0, 0]
BACK = [5, 0, 0]
TOLD = [15, 0, 0]


def parted(told):
    """What is answered, one list for each call."""
    rows = []
    at = 0
    while at < len(told):
        end = at + 1 + told[at]
        rows.append(told[at + 1:end])
        at = end
    if at != len(told):
        raise AssertionError("the counts don't fit what is answered")
    return rows


def run(*calls):
    """The answers to these calls, made on one new plan."""
    return parted(answers([number for call in calls for number in call]))


def last(*calls):
    return run(*calls)[-1]
