"""The greatest values that keep some bounds, found by going down from above.

Here "" is a name like all others: bounds stay true if all values rise by the same number. So
values may be below 0, and the number of a name is how far it is above "".
"""

from everylevel.cases import atoms_in, bounds_in, cases_of, steps_in


def settle(bounds, tops):
    """The greatest values, at most the tops, that keep the bounds; and the bounds that fall.

    `tops` is a dict for all names. The first result is a dict, or None if nothing keeps the
    bounds: then the second one has, for each name of a lot, a bound of this name by names of
    the lot, so that each ring of these bounds falls; it is empty otherwise.

    Each name stays at its top or goes down with one bound. A name goes over to another bound
    only if this one is lower: so no ring of the bounds that are chosen ever rises or stays
    level, the values only go down, and no choice comes twice.
    """
    values, chosen = dict(tops), {}
    while True:
        lower = _lower_bounds(bounds, values)
        if not lower:
            return values, {}
        chosen.update(lower)
        values = _values_with(chosen, tops)
        if len(values) < len(tops):
            return None, {x: bound for x, bound in chosen.items() if x not in values}


def _lower_bounds(bounds, values):
    """The lowest bound of each name that is above one of its bounds."""
    lowest = dict(values)
    found = {}
    for bound in bounds:
        x, number, right = bound
        most = max([values[y] + more for y, more in right]) - number
        if most < lowest[x]:
            lowest[x] = most
            found[x] = bound
    return found


def _values_with(chosen, tops):
    """The values of the names from which the chosen bounds lead to names that stay at their tops."""
    values = {x: tops[x] for x in tops if x not in chosen}
    # No ring rises: a name is as high as the best way to a top, and that has no name twice.
    for _ in range(len(chosen)):
        for x, number, right in chosen.values():
            led = [values[y] + more for y, more in right if y in values]
            if led:
                values[x] = max(led) - number
    return values


def same_tops(names, case, top):
    """A top for "" and for each name that is not 0 in a case."""
    return {x: top for x in ["", *names] if case.get(x) != 0}


def some_in(names, demands):
    """Some numbers, one for each name, that keep the demands, by their parts, or None."""
    for case in cases_of(steps_in(demands)):
        values, _ = settle(bounds_in(case, names, demands), same_tops(names, case, 0))
        if values is not None:
            return tuple([values[name] - values[""] if name in values else 0 for name in names])
    return None


def greatest_in(bounds, names, tops):
    """The greatest numbers, at most the tops, that keep some bounds, or None."""
    limits = dict(zip(names, tops))
    limits[""] = 0
    values, _ = settle(bounds, limits)
    if values is None or values[""] < 0:
        return None
    return tuple([values[name] for name in names])


def least_in(bounds, names, tops):
    """Some numbers, at most the tops, that keep some bounds, and beneath which no others do, or None."""
    numbers = greatest_in(bounds, names, tops)
    if numbers is None:
        return None
    values = dict(zip(names, numbers))
    # With one name at 0 and all others at most so far above "", "" goes down as little as it can.
    for name in names:
        caps = [(x, 0, (("", number),)) for x, number in values.items()]
        settled, _ = settle(bounds + caps, {**values, name: 0, "": 0})
        values = {x: settled[x] - settled[""] for x in names}
    return tuple([values[name] for name in names])


def rise_in(names, demands, high, low):
    """How far one level can be above another one, for all numbers that keep the demands.

    `high` and `low` are their steps. A pair: whether some numbers keep the demands, and the
    greatest integer, or None if there is no greatest one.
    """
    best = None
    for case in cases_of(steps_in(demands) + high + low):
        most, far = _rise(bounds_in(case, names, demands), names, case, high, low)
        if most is not None and most > far:
            return True, None
        if most is not None and (best is None or most > best):
            best = most
    return best is not None, best


def _rise(bounds, names, case, high, low):
    """The greatest rise in a case, or None, and a number that it exceeds only if it has no bound.

    Values for which `low` is at most 0 have tops for its names. All others have tops so far up
    that what hangs on them is above everything that does not.
    """
    zeros = [name for name in case if case[name] == 0]
    lefts, rights = atoms_in(high, zeros), atoms_in(low, zeros)
    used = list(lefts.values()) + list(rights.values())
    for _, number, right in bounds:
        used.extend([number] + [more for _, more in right])
    # A way has at most as many steps as there are names, each of them at most the greatest number.
    far = (len(names) + 3) * (max(used) + 1)
    tops = same_tops(names, case, 3 * far)
    tops.update({x: -more for x, more in rights.items()})
    values, _ = settle(bounds, tops)
    if values is None:
        return None, far
    return max([values[x] + more for x, more in lefts.items()]), far
