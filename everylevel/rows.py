"""Rows of plain demands, and names left out of them.

A row (x, right) says that x is at most the greatest y + more of the names y in the dict `right`,
each with its number `more`, perhaps below 0. "" is a name, too, which stands for 0; that it is
at most each other name is known besides.
"""

from everylevel.cases import bounds_in
from everylevel.settling import settle


def rows_of(demands):
    """The rows of plain demands, by their parts."""
    rows = []
    for x, number, right in bounds_in({}, (), demands):
        rows.append((x, {y: more - number for y, more in right}))
    return _tidy(rows)


def _tidy(rows):
    """Rows that say the same, none of which follows from a single other one."""
    kept = []
    for x, given in rows:
        right = _tidy_right(x, given)
        if right is None or any([_is_above(x, right, other) for other in kept]):
            continue
        kept = [other for other in kept if not _is_above(other[0], other[1], (x, right))]
        kept.append((x, right))
    return kept


def _tidy_right(x, right):
    """The right side of a row without what is no help, or None if the row is true for all numbers.

    A number that it surely reaches is written down, too, so that rows can be compared.
    """
    others = {y: more for y, more in right.items() if y not in ("", x)}
    most = max(list(others.values()) + [right.get("", -1)])
    if right.get(x, -1) >= 0 or (x == "" and most >= 0):
        return None
    if most >= 0:
        others[""] = most
    return others


def _is_above(x, right, row):
    """Whether a row with this left and right side follows from another row with the same left one."""
    y, less = row
    return x == y and all([name in right and more <= right[name] for name, more in less.items()])


def leave_out(rows, names, others):
    """Rows of the other names that are kept exactly if there are numbers for these names, too.

    Some numbers keep the rows that are passed. None of those that are returned follows from the others.
    """
    left = list(names)
    rows = _needed(rows, [*left, *others])
    while left:
        _, name = min([(_pairs_with(rows, x), x) for x in left])
        left.remove(name)
        rows = _needed(_tidy(_without(rows, name)), [*left, *others])
    return rows


def _pairs_with(rows, name):
    """How many rows it makes to leave a name out."""
    uppers = [x for x, _ in rows if x == name]
    return len(uppers) * len([right for _, right in rows if name in right])


def _without(rows, name):
    """The rows with each upper bound of a name in its place; without one, the name can be great."""
    uppers = [right for x, right in rows if x == name]
    # That 0 is at most the name is no row, but says something of its bounds, too.
    found = [("", upper) for upper in uppers]
    for x, right in rows:
        if x != name and name not in right:
            found.append((x, right))
        elif x != name:
            found.extend([(x, _put_for(name, right, upper)) for upper in uppers])
    return found


def _put_for(name, right, upper):
    """The right side of a row with an upper bound in the place of a name."""
    put = {y: more for y, more in right.items() if y != name}
    for y, more in upper.items():
        risen = more + right[name]
        put[y] = max(risen, put.get(y, risen))
    return put


def _needed(rows, names):
    """The rows without such as follow from the others. Some numbers keep them all."""
    bounds = [(x, 0, tuple(right.items())) for x, right in rows]
    known = [("", 0, ((name, 0),)) for name in names]
    tops = {x: 0 for x in ["", *names]}
    for bound in list(bounds):
        x, _, right = bound
        others = [other for other in bounds if other != bound]
        denial = [(y, more + 1, ((x, 0),)) for y, more in right]
        values, _ = settle(known + others + denial, tops)
        if values is None:
            bounds = others
    return [(x, dict(right)) for x, _, right in bounds]
