"""The fewest crews for needs at each minute, with the witness: least and back, shortage and ill."""

from crewshifts.rows import crews_of, is_shift, listed, listed_pairs
from crewshifts.state import BAD_LIST, MOST_NEEDED, MOST_ON_SHIFT, NO_SHIFT_HAS_IT, OUT_OF_RANGE, TOO_FEW_ON_SHIFT
from crewshifts.state import has, missing_at, need_at, points, within

MOST_ASKED = 100000


class Way:
    """The points in the order in which they are gone through.

    For the point minutes[k], having[k] are the shifts that have it and chosen[k] is the one on which crews are put
    (None if no shift has it). Needs for a way are told point by point, in its order.
    """

    def __init__(self, shifts, minutes, having, chosen):
        self.shifts = shifts
        self.minutes = minutes
        self.having = having
        self.chosen = chosen


def shifts_with(shifts, minute):
    """The shifts that have the minute, rising."""
    return [j for j in range(len(shifts)) if has(shifts[j], minute)]


def last_to_end(shifts, numbers):
    """Of these shifts, told rising, the one with the greatest b, of equal ones the first; None without one."""
    return max(numbers, key=lambda j: shifts[j][1], default=None)


def first_to_begin(shifts, numbers):
    """Of these shifts, told rising, the one with the least a, of equal ones the first; None without one."""
    return min(numbers, key=lambda j: shifts[j][0], default=None)


def rising_way(plan):
    minutes = points(plan)
    having = [shifts_with(plan.shifts, minute) for minute in minutes]
    chosen = [last_to_end(plan.shifts, numbers) for numbers in having]
    return Way(plan.shifts, minutes, having, chosen)


def falling_way(plan):
    minutes = list(reversed(points(plan)))
    having = [shifts_with(plan.shifts, minute) for minute in minutes]
    chosen = [first_to_begin(plan.shifts, numbers) for numbers in having]
    return Way(plan.shifts, minutes, having, chosen)


def needs_on(plan, way):
    return [need_at(plan, minute) for minute in way.minutes]


def first_gap(way, needs):
    """The first point at which some are needed and no shift has it, or None."""
    for k in range(len(needs)):
        if needs[k] > 0 and way.chosen[k] is None:
            return way.minutes[k]
    return None


def short_points(way, needs):
    """The points that were short, in the way's order, as (minute, shift, how many were put on it).

    Needs with a gap are not for this: there would be no shift to put crews on.
    """
    crews = [0 for shift in way.shifts]
    short = []
    for k in range(len(needs)):
        missing = needs[k] - sum([crews[j] for j in way.having[k]])
        if missing > 0:
            crews[way.chosen[k]] += missing
            short.append((way.minutes[k], way.chosen[k], missing))
    return short


def put_in_all(short):
    return sum([count for minute, j, count in short])


def put_on_shifts(way, short):
    """The shifts with some crews, rising, as (shift, how many)."""
    crews = [0 for shift in way.shifts]
    for minute, j, count in short:
        crews[j] += count
    return [(j, crews[j]) for j in range(len(crews)) if crews[j] > 0]


def witness(way, short):
    taken = []
    for minute, j, count in reversed(short):
        if not any([has(way.shifts[j], other) for other in taken]):
            taken.append(minute)
    return sorted(taken)


def fewest(way, needs):
    if first_gap(way, needs) is not None:
        return [NO_SHIFT_HAS_IT]
    short = short_points(way, needs)
    return [put_in_all(short)] + listed_pairs(put_on_shifts(way, short)) + listed(witness(way, short))


def least(plan):
    way = rising_way(plan)
    return fewest(way, needs_on(plan, way))


def back(plan):
    way = falling_way(plan)
    return fewest(way, needs_on(plan, way))


def fewer(needs, k):
    return [max(0, need - k) for need in needs]


def would_do(way, needs, n):
    return first_gap(way, needs) is None and put_in_all(short_points(way, needs)) <= n


def least_shortage(way, needs, n):
    """The least k such that n crews would do if at each minute k fewer were needed.

    Halving finds it, as n crews that would do at some k do at each greater one too; at the greatest k none is needed.
    """
    low = 0
    high = MOST_NEEDED
    while low < high:
        k = (low + high) // 2
        if would_do(way, fewer(needs, k), n):
            high = k
        else:
            low = k + 1
    return low


def why_not(way, needs):
    """The minutes that show why not enough crews could be put: a gap, or else the witness."""
    gap = first_gap(way, needs)
    if gap is not None:
        return [gap]
    return witness(way, short_points(way, needs))


def shortage(plan, n):
    if not within(n, 0, MOST_ASKED):
        return [OUT_OF_RANGE]
    way = rising_way(plan)
    needs = needs_on(plan, way)
    k = least_shortage(way, needs, n)
    if k == 0:
        return [0, 0]
    return [k] + listed(why_not(way, fewer(needs, k - 1)))


def ill(plan, j, k, row):
    if not is_shift(plan, j) or not within(k, 1, MOST_ON_SHIFT):
        return [OUT_OF_RANGE]
    crews = crews_of(plan, row)
    if crews is None:
        return [BAD_LIST]
    if crews[j] < k:
        return [TOO_FEW_ON_SHIFT]
    crews[j] -= k
    way = rising_way(plan)
    return fewest(way, [missing_at(plan, crews, minute) for minute in way.minutes])
