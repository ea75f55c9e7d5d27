"""A plan of crews on shifts, and the calls on it.

`answers` makes the calls of one list, one behind another, on a new plan.
"""

MOST_MINUTES = 1000000
MOST_CHANGES = 100
MOST_SHIFTS = 60
MOST_NEEDED = 1000
MOST_ON_SHIFT = 1000

NO_FORM = -9
OUT_OF_RANGE = -1
BAD_LIST = -2
NOT_GREATER = -4
NO_MORE_SHIFTS = -6
NO_SHIFT_HAS_IT = -7

# For each place: how many numbers stand behind it, and how many lists follow.
FORMS = {
    0: (2, 0),
    1: (0, 1),
    2: (2, 0),
    3: (1, 0),
    4: (0, 0),
    5: (0, 0),
    6: (0, 1),
    7: (0, 1),
}


class Plan:
    """What is kept from call to call: changes are (minute, level), shifts are (a, b)."""

    def __init__(self):
        self.horizon = 1440
        self.rest = 0
        self.changes = []
        self.shifts = []


def within(number, low, high):
    return low <= number and number <= high


def has(shift, minute):
    return shift[0] <= minute and minute < shift[1]


def need_at(plan, minute):
    need = 0
    for when, level in plan.changes:
        if when <= minute:
            need = level
    return need


def there_at(shifts, crews, minute):
    """How many crews are there at the minute; crews[j] of them are on shift j."""
    return sum([crews[j] for j in range(len(shifts)) if has(shifts[j], minute)])


def points(plan):
    """The minutes at which the need or who is there may change, rising.

    Between two of them nothing changes, so no other minute has to be looked at.
    """
    minutes = [0]
    for when, level in plan.changes:
        minutes.append(when)
    for a, b in plan.shifts:
        minutes.append(a)
        minutes.append(b)
    return sorted(set([minute for minute in minutes if minute < plan.horizon]))


def listed(numbers):
    return [len(numbers)] + numbers


def changes_of(plan, row):
    """The changes that a list tells, or None if it isn't as told."""
    if len(row) % 2 != 0 or len(row) > 2 * MOST_CHANGES:
        return None
    changes = []
    earliest = 0
    for k in range(0, len(row), 2):
        if not within(row[k], earliest, plan.horizon - 1) or not within(row[k + 1], 0, MOST_NEEDED):
            return None
        changes.append((row[k], row[k + 1]))
        earliest = row[k] + 1
    return changes


def crews_of(plan, row):
    """How many are on each shift by a list of crews, or None if it isn't one."""
    if len(row) % 2 != 0:
        return None
    counts = {}
    for k in range(0, len(row), 2):
        if not within(row[k], 0, len(plan.shifts) - 1) or row[k] in counts:
            return None
        if not within(row[k + 1], 0, MOST_ON_SHIFT):
            return None
        counts[row[k]] = row[k + 1]
    return [counts.get(j, 0) for j in range(len(plan.shifts))]


def are_minutes(plan, row):
    """Whether these are minutes of the plan, each once at most."""
    seen = {}
    for minute in row:
        if not within(minute, 0, plan.horizon - 1) or minute in seen:
            return False
        seen[minute] = True
    return True


def last_to_end(shifts, minute):
    """Of the shifts that have the minute the one with the greatest b, of these the least number; None without one."""
    best = None
    for j in range(len(shifts)):
        if has(shifts[j], minute) and (best is None or shifts[j][1] > shifts[best][1]):
            best = j
    return best


def first_to_begin(shifts, minute):
    """Of the shifts that have the minute the one with the least a, of these the least number; None without one."""
    best = None
    for j in range(len(shifts)):
        if has(shifts[j], minute) and (best is None or shifts[j][0] < shifts[best][0]):
            best = j
    return best


def witness(shifts, short):
    """The witness among the short minutes, which come with the shift their crews were put on, in that order."""
    taken = []
    for minute, j in reversed(short):
        if not any([has(shifts[j], other) for other in taken]):
            taken.append(minute)
    return sorted(taken)


def told_crews(crews):
    """How many crews, on how many shifts, and for each of these the shift and how many."""
    told = []
    for j in range(len(crews)):
        if crews[j] > 0:
            told.append(j)
            told.append(crews[j])
    return [sum(crews), len(told) // 2] + told


def fewest(shifts, minutes, needs, chosen):
    """Put crews where they are missing, minute by minute in this order.

    For each minute, needs tells how many are needed and chosen the shift on which missing ones are put.
    """
    crews = [0 for shift in shifts]
    short = []
    for k in range(len(minutes)):
        missing = needs[k] - there_at(shifts, crews, minutes[k])
        if missing > 0:
            if chosen[k] is None:
                return [NO_SHIFT_HAS_IT]
            crews[chosen[k]] += missing
            short.append((minutes[k], chosen[k]))
    return told_crews(crews) + listed(witness(shifts, short))


def begin(plan, horizon, rest):
    if not within(horizon, 1, MOST_MINUTES) or not within(rest, 0, MOST_MINUTES):
        return [OUT_OF_RANGE]
    plan.horizon = horizon
    plan.rest = rest
    plan.changes = []
    plan.shifts = []
    return [0]


def set_changes(plan, row):
    changes = changes_of(plan, row)
    if changes is None:
        return [BAD_LIST]
    plan.changes = changes
    return [0]


def add_shift(plan, a, b):
    if not within(a, 0, plan.horizon) or not within(b, 0, plan.horizon):
        return [OUT_OF_RANGE]
    if b <= a:
        return [NOT_GREATER]
    if len(plan.shifts) >= MOST_SHIFTS:
        return [NO_MORE_SHIFTS]
    plan.shifts.append((a, b))
    return [len(plan.shifts) - 1]


def set_rest(plan, rest):
    if not within(rest, 0, MOST_MINUTES):
        return [OUT_OF_RANGE]
    plan.rest = rest
    return [0]


def least(plan):
    minutes = points(plan)
    needs = [need_at(plan, minute) for minute in minutes]
    chosen = [last_to_end(plan.shifts, minute) for minute in minutes]
    return fewest(plan.shifts, minutes, needs, chosen)


def back(plan):
    minutes = list(reversed(points(plan)))
    needs = [need_at(plan, minute) for minute in minutes]
    chosen = [first_to_begin(plan.shifts, minute) for minute in minutes]
    return fewest(plan.shifts, minutes, needs, chosen)


def covers(plan, row):
    crews = crews_of(plan, row)
    if crews is None:
        return [BAD_LIST]
    for minute in points(plan):
        missing = need_at(plan, minute) - there_at(plan.shifts, crews, minute)
        if missing > 0:
            return [1, minute, missing]
    return [0, sum(crews)]


def apart(plan, row):
    if not are_minutes(plan, row):
        return [BAD_LIST]
    for j in range(len(plan.shifts)):
        had = [minute for minute in row if has(plan.shifts[j], minute)]
        if len(had) >= 2:
            return [1, j, had[0], had[1]]
    return [0, sum([need_at(plan, minute) for minute in row])]


def make_change(plan, place, numbers, lists):
    """The calls that change, places 0 to 3."""
    if place == 0:
        return begin(plan, numbers[0], numbers[1])
    if place == 1:
        return set_changes(plan, lists[0])
    if place == 2:
        return add_shift(plan, numbers[0], numbers[1])
    return set_rest(plan, numbers[0])


def ask(plan, place, lists):
    """The questions, places 4 to 7."""
    if place == 4:
        return least(plan)
    if place == 5:
        return back(plan)
    if place == 6:
        return covers(plan, lists[0])
    return apart(plan, lists[0])


def answer(plan, place, numbers, lists):
    if FORMS.get(place) != (len(numbers), len(lists)):
        return [NO_FORM]
    if place <= 3:
        return make_change(plan, place, numbers, lists)
    return ask(plan, place, lists)


def answers(calls):
    """Make the calls on a new plan, and tell for each how many numbers are answered, then these."""
    plan = Plan()
    told = []
    at = 0
    while at < len(calls):
        place = calls[at]
        behind = at + 2 + calls[at + 1]
        numbers = calls[at + 2:behind]
        lists = []
        at = behind + 1
        for k in range(calls[behind]):
            first = at + 1
            at = first + calls[at]
            lists.append(calls[first:at])
        told.extend(listed(answer(plan, place, numbers, lists)))
    return told
