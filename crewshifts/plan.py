"""The calls on a plan of crews on shifts.

`answers` makes the calls of one list, one behind another, on a new plan.
"""

from crewshifts.fewest import back, ill, least, shortage
from crewshifts.persons import people, roster
from crewshifts.rows import are_minutes, changes_of, crews_of, listed, listed_pairs
from crewshifts.state import BAD_LIST, NO_FORM, NO_MORE_SHIFTS, NOT_GREATER, OUT_OF_RANGE
from crewshifts.state import Plan, has, missing_at, need_at, points, there_at, within

MOST_MINUTES = 1000000
MOST_SHIFTS = 60

# For each place: how many numbers stand behind it, and how many lists follow, at least and at most.
FORMS = {
    0: (2, 0, 0),
    1: (0, 1, 1),
    2: (2, 0, 0),
    3: (1, 0, 0),
    4: (0, 0, 0),
    5: (0, 0, 0),
    6: (0, 1, 1),
    7: (0, 1, 1),
    8: (0, 1, 1),
    9: (0, 0, 199),
    10: (1, 0, 0),
    11: (1, 1, 1),
    12: (1, 0, 0),
    13: (2, 1, 1),
    14: (0, 1, 1),
    15: (0, 0, 0),
}


def begin(plan, horizon, rest):
    if not within(horizon, 1, MOST_MINUTES) or not within(rest, 0, MOST_MINUTES):
        return [OUT_OF_RANGE]
    plan.horizon = horizon
    plan.rest = rest
    plan.changes = []
    plan.shifts = []
    return [0]


def set_changes(plan, row):
    changes = changes_of(plan, row)
    if changes is None:
        return [BAD_LIST]
    plan.changes = changes
    return [0]


def add_shift(plan, a, b):
    if not within(a, 0, plan.horizon) or not within(b, 0, plan.horizon):
        return [OUT_OF_RANGE]
    if b <= a:
        return [NOT_GREATER]
    if len(plan.shifts) >= MOST_SHIFTS:
        return [NO_MORE_SHIFTS]
    plan.shifts.append((a, b))
    return [len(plan.shifts) - 1]


def set_rest(plan, rest):
    if not within(rest, 0, MOST_MINUTES):
        return [OUT_OF_RANGE]
    plan.rest = rest
    return [0]


def covers(plan, row):
    crews = crews_of(plan, row)
    if crews is None:
        return [BAD_LIST]
    for minute in points(plan):
        missing = missing_at(plan, crews, minute)
        if missing > 0:
            return [1, minute, missing]
    return [0, sum(crews)]


def apart(plan, row):
    if not are_minutes(plan, row):
        return [BAD_LIST]
    for j in range(len(plan.shifts)):
        had = [minute for minute in row if has(plan.shifts[j], minute)]
        if len(had) >= 2:
            return [1, j, had[0], had[1]]
    return [0, sum([need_at(plan, minute) for minute in row])]


def need(plan, minute):
    if not within(minute, 0, plan.horizon - 1):
        return [OUT_OF_RANGE]
    return [need_at(plan, minute)]


def there(plan, minute, row):
    if not within(minute, 0, plan.horizon - 1):
        return [OUT_OF_RANGE]
    crews = crews_of(plan, row)
    if crews is None:
        return [BAD_LIST]
    with_rests = [(a, b + plan.rest) for a, b in plan.shifts]
    return [there_at(plan.shifts, crews, minute), there_at(with_rests, crews, minute)]


def hours(plan, row):
    crews = crews_of(plan, row)
    if crews is None:
        return [BAD_LIST]
    return [sum([crews[j] * (plan.shifts[j][1] - plan.shifts[j][0]) for j in range(len(crews))])]


def all_kept(plan):
    return [plan.horizon, plan.rest] + listed_pairs(plan.changes) + listed_pairs(plan.shifts)


def make_change(plan, place, numbers, lists):
    """The calls that change, places 0 to 3."""
    if place == 0:
        return begin(plan, numbers[0], numbers[1])
    if place == 1:
        return set_changes(plan, lists[0])
    if place == 2:
        return add_shift(plan, numbers[0], numbers[1])
    return set_rest(plan, numbers[0])


def ask_by_numbers(plan, place, numbers):
    """The questions without a list: places 4, 5, 10, 12 and 15."""
    if place == 4:
        return least(plan)
    if place == 5:
        return back(plan)
    if place == 10:
        return need(plan, numbers[0])
    if place == 12:
        return shortage(plan, numbers[0])
    return all_kept(plan)


def ask_by_lists(plan, place, numbers, lists):
    """The questions with lists: places 6 to 9, 11, 13 and 14."""
    if place == 6:
        return covers(plan, lists[0])
    if place == 7:
        return apart(plan, lists[0])
    if place == 8:
        return people(plan, lists[0])
    if place == 9:
        return roster(plan, lists)
    if place == 11:
        return there(plan, numbers[0], lists[0])
    if place == 13:
        return ill(plan, numbers[0], numbers[1], lists[0])
    return hours(plan, lists[0])


def has_form(place, numbers, lists):
    if place not in FORMS:
        return False
    form = FORMS[place]
    return len(numbers) == form[0] and within(len(lists), form[1], form[2])


def answer(plan, place, numbers, lists):
    if not has_form(place, numbers, lists):
        return [NO_FORM]
    if place <= 3:
        return make_change(plan, place, numbers, lists)
    if FORMS[place][2] == 0:
        return ask_by_numbers(plan, place, numbers)
    return ask_by_lists(plan, place, numbers, lists)


def answers(calls):
    """Make the calls on a new plan, and tell for each how many numbers are answered, then these."""
    plan = Plan()
    told = []
    at = 0
    while at < len(calls):
        place = calls[at]
        behind = at + 2 + calls[at + 1]
        numbers = calls[at + 2:behind]
        lists = []
        at = behind + 1
        for k in range(calls[behind]):
            first = at + 1
            at = first + calls[at]
            lists.append(calls[first:at])
        told.extend(listed(answer(plan, place, numbers, lists)))
    return told
