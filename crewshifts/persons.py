"""People, who have shifts one after another with a rest behind each: people and roster."""

from crewshifts.rows import are_shifts, crews_of, listed
from crewshifts.state import BAD_LIST, TOO_MANY_CREWS

MOST_CREWS = 300


def one_by_one(plan, crews):
    """For each crew its shift, in the order in which the crews are taken."""
    taken = []
    for j in sorted(range(len(crews)), key=lambda number: (plan.shifts[number][0], number)):
        taken.extend([j] * crews[j])
    return taken


def first_free(free, minute):
    """The first person who is free from a minute that isn't later than this one, or None."""
    for person in range(len(free)):
        if free[person] <= minute:
            return person
    return None


def handed_out(plan, taken):
    """For each person the shifts, in their order; taken are the crews' shifts in the order in which they are taken."""
    rows = []
    free = []
    for j in taken:
        a = plan.shifts[j][0]
        free_again = plan.shifts[j][1] + plan.rest
        person = first_free(free, a)
        if person is None:
            rows.append([j])
            free.append(free_again)
        else:
            rows[person].append(j)
            free[person] = free_again
    return rows


def people(plan, row):
    crews = crews_of(plan, row)
    if crews is None:
        return [BAD_LIST]
    if sum(crews) > MOST_CREWS:
        return [TOO_MANY_CREWS]
    rows = handed_out(plan, one_by_one(plan, crews))
    if rows == []:
        return [0, 0]
    first_of_last = rows[len(rows) - 1][0]
    told = [len(rows), plan.shifts[first_of_last][0]]
    for shifts in rows:
        told.extend(listed(shifts))
    return told


def first_too_early(plan, row):
    """The place in the row of the first shift that begins before the rest behind the one before it ends, or None."""
    for k in range(1, len(row)):
        if plan.shifts[row[k]][0] < plan.shifts[row[k - 1]][1] + plan.rest:
            return k
    return None


def roster(plan, rows):
    if not all([are_shifts(plan, row) for row in rows]):
        return [BAD_LIST]
    times = [0 for shift in plan.shifts]
    for person in range(len(rows)):
        k = first_too_early(plan, rows[person])
        if k is not None:
            return [1, person, k]
        for j in rows[person]:
            times[j] += 1
    return [0, len(rows)] + times
