"""What a plan keeps from call to call, what can be seen of it at a minute, and the refusals."""

NO_FORM = -9
OUT_OF_RANGE = -1
BAD_LIST = -2
NOT_GREATER = -4
NO_MORE_SHIFTS = -6
TOO_FEW_ON_SHIFT = -3
TOO_MANY_CREWS = -11
NO_SHIFT_HAS_IT = -7

MOST_NEEDED = 1000
MOST_ON_SHIFT = 1000


class Plan:
    """Changes are (minute, level), shifts are (a, b)."""

    def __init__(self):
        self.horizon = 1440
        self.rest = 0
        self.changes = []
        self.shifts = []


def within(number, low, high):
    return low <= number and number <= high


def has(shift, minute):
    return shift[0] <= minute and minute < shift[1]


def need_at(plan, minute):
    need = 0
    for when, level in plan.changes:
        if when <= minute:
            need = level
    return need


def there_at(shifts, crews, minute):
    """How many crews are there at the minute; crews[j] of them are on shift j."""
    return sum([crews[j] for j in range(len(shifts)) if has(shifts[j], minute)])


def missing_at(plan, crews, minute):
    return max(0, need_at(plan, minute) - there_at(plan.shifts, crews, minute))


def points(plan):
    """The minutes at which the need or who is there may change, rising.

    Between two of them nothing changes, so no other minute has to be looked at.
    """
    minutes = [0]
    for when, level in plan.changes:
        minutes.append(when)
    for a, b in plan.shifts:
        minutes.append(a)
        minutes.append(b)
    return sorted(set([minute for minute in minutes if minute < plan.horizon]))
