"""The lists of a call, read as the calls tell them, and the lists of an answer."""

from crewshifts.state import MOST_NEEDED, MOST_ON_SHIFT, within

MOST_CHANGES = 100


def is_shift(plan, number):
    return within(number, 0, len(plan.shifts) - 1)


def changes_of(plan, row):
    """The changes that a list tells, or None if it isn't as told."""
    if len(row) % 2 != 0 or len(row) > 2 * MOST_CHANGES:
        return None
    changes = []
    earliest = 0
    for k in range(0, len(row), 2):
        if not within(row[k], earliest, plan.horizon - 1) or not within(row[k + 1], 0, MOST_NEEDED):
            return None
        changes.append((row[k], row[k + 1]))
        earliest = row[k] + 1
    return changes


def crews_of(plan, row):
    """How many are on each shift by a list of crews, or None if it isn't one."""
    if len(row) % 2 != 0:
        return None
    counts = {}
    for k in range(0, len(row), 2):
        if not is_shift(plan, row[k]) or row[k] in counts:
            return None
        if not within(row[k + 1], 0, MOST_ON_SHIFT):
            return None
        counts[row[k]] = row[k + 1]
    return [counts.get(j, 0) for j in range(len(plan.shifts))]


def are_minutes(plan, row):
    """Whether these are minutes of the plan, each once at most."""
    seen = {}
    for minute in row:
        if not within(minute, 0, plan.horizon - 1) or minute in seen:
            return False
        seen[minute] = True
    return True


def are_shifts(plan, row):
    return all([is_shift(plan, number) for number in row])


def listed(numbers):
    return [len(numbers)] + numbers


def listed_pairs(pairs):
    """How many pairs, then the two numbers of each."""
    told = [len(pairs)]
    for first, second in pairs:
        told.append(first)
        told.append(second)
    return told
