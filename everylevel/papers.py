"""Papers: what shows, entry by entry, that no numbers keep a book."""

from everylevel.basics import is_number, is_whole
from everylevel.cases import least_atoms, sides_of
from everylevel.settling import settle


def bounds(book, zeros):
    """The lot of the bounds of a book where the names in `zeros` are 0, all others at least 1."""
    found = [("", 1, ((name, 0),)) for name in book.names if name not in zeros]
    for parts in book.parts:
        for low, more, high in sides_of(parts):
            right = least_atoms(high, zeros)
            found.extend([(x, number + more, right) for x, number in least_atoms(low, zeros)])
    return tuple(sorted(set(found)))


def paper(book):
    """Some right paper for the book, or None if some numbers keep it."""
    cases = []
    for zeros in _lots(book.names):
        tops = {x: 0 for x in ["", *book.names] if x not in zeros}
        _, falling = settle(bounds(book, zeros), tops)
        if not falling:
            return None
        cases.append((zeros, _entries(falling)))
    return tuple(cases)


def _lots(names):
    """All lots of some names, ascending."""
    lots = [()]
    for name in sorted(names):
        lots = lots + [(*lot, name) for lot in lots]
    return sorted(lots)


def _entries(falling):
    """Bounds, each at its name, of which each ring falls, as entries with heights."""
    heights = {x: 0 for x in falling}
    # A height is the most that a way along the bounds rises: no such way needs more steps.
    for _ in range(len(falling)):
        for x, bound in falling.items():
            heights[x] = max(heights[x], _least_height(bound, heights))
    return tuple([(*bound, heights[x]) for x, bound in falling.items()])


def _least_height(bound, heights):
    """The least height that an entry with a bound can have above those to which it leads."""
    _, number, right = bound
    return max([len(heights) * (more - number) + 1 + heights[y] for y, more in right])


def paper_holds(book, value):
    """Whether any value is a right paper for the book."""
    lots = _lots(book.names)
    if not isinstance(value, tuple) or len(value) != len(lots):
        return False
    return all([_case_holds(book, zeros, case) for zeros, case in zip(lots, value)])


def _case_holds(book, zeros, case):
    """Whether any value is the pair of a case and a right paper for it."""
    if not isinstance(case, tuple) or len(case) != 2:
        return False
    lot, entries = case
    if lot != zeros or not isinstance(entries, tuple) or not entries:
        return False
    if not all([_is_entry(entry) for entry in entries]):
        return False
    heights = {entry[0]: entry[3] for entry in entries}
    known = {bound: True for bound in bounds(book, zeros)}
    return len(heights) == len(entries) and all([_entry_holds(entry, heights, known) for entry in entries])


def _is_entry(thing):
    """Whether any value is a bound of some name, with an integer behind it."""
    if not isinstance(thing, tuple) or len(thing) != 4:
        return False
    x, number, right, height = thing
    if not isinstance(x, str) or not is_number(number) or not isinstance(right, tuple):
        return False
    return is_whole(height) and all([_is_pair(pair) for pair in right])


def _is_pair(thing):
    """Whether any value is a pair of a string and a number."""
    if not isinstance(thing, tuple) or len(thing) != 2:
        return False
    return isinstance(thing[0], str) and is_number(thing[1])


def _entry_holds(entry, heights, known):
    """Whether an entry is one of the known bounds and stands high enough above those to which it leads."""
    x, number, right, height = entry
    if (x, number, right) not in known or not all([y in heights for y, _ in right]):
        return False
    return _least_height((x, number, right), heights) <= height
