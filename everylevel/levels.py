"""Levels: their names and values, their atoms, and how two of them compare."""

from everylevel.basics import names_in, peak, read_level, tokens_of, worth
from everylevel.errors import NoName


def names_of(level):
    """The lot of the names of a level."""
    return names_in(read_level(level))


def value(level, numbers):
    """The value of a level, with the numbers in a dict for its names."""
    steps = read_level(level)
    for name in names_in(steps):
        if name not in numbers:
            raise NoName(name)
    return worth(steps, numbers)


def put_for(level, others):
    """The level with the texts of a dict in the place of the names that are its keys."""
    texts = {name: others[name] for name in names_of(level) if name in others}
    for name in texts:
        read_level(texts[name])
    # A text stays one level wherever a name can stand: only ` + k` can come behind it.
    return "".join([texts.get(token, token) for token in tokens_of(level)])


def atoms(level, zeros):
    """The least atoms of a level where the names in `zeros` are 0, all others at least 1."""
    found = _atoms_in(read_level(level), zeros)
    pairs = [(name, number) for name, number in found.items() if name != ""]
    # All other names are at least 1, so each of the pairs is worth at least its number + 1.
    if "" in found and all([found[""] > number + 1 for name, number in pairs]):
        pairs.append(("", found[""]))
    return tuple(sorted(pairs))


def _atoms_in(steps, zeros):
    """The atoms, each name with its greatest number, in a dict."""
    pile = []
    for kind, thing in steps:
        if kind == "number":
            pile.append({"": thing})
        elif kind == "name":
            pile.append({"": 0} if thing in zeros else {thing: 0})
        elif kind == "+":
            last = pile.pop()
            pile.append({name: number + thing for name, number in last.items()})
        else:
            taken = pile[-thing:]
            del pile[-thing:]
            pile.append({"": 0} if kind == "imax" and taken[-1] == {"": 0} else _greatest(taken))
    return pile[0]


def _greatest(dicts):
    """The atoms of the greatest of some levels."""
    best = {}
    for found in dicts:
        for name, number in found.items():
            best[name] = max(number, best.get(name, 0))
    return best


def never_above(one, other):
    """Whether the value of one level is at most that of the other one for all numbers."""
    first, second = read_level(one), read_level(other)
    for numbers in _trials(first, second):
        if worth(first, numbers) > worth(second, numbers):
            return False
    return True


def alike(one, other):
    """Whether two levels have the same value for all numbers."""
    return parting(one, other) is None


def parting(one, other):
    """Some numbers, in a dict, for which two levels are not equal, or None."""
    first, second = read_level(one), read_level(other)
    for numbers in _trials(first, second):
        if worth(first, numbers) != worth(second, numbers):
            return numbers
    return None


def _trials(first, second):
    """Numbers for the names of two levels: if one level can be above the other, then here.

    In a case both levels are the greatest of atoms. Where one is above, it is so by an atom
    (x, j) that the other one does not have with j or more: then it is above for a great x.
    Or it is so by a number: then it is above where all names are as small as they can be.
    """
    names = names_in(first + second)
    great = max(peak(first), peak(second)) + 2
    for case in _cases(first + second):
        least = {name: case.get(name, 0) for name in names}
        yield least
        for name in names:
            yield {**least, name: great}


def _cases(steps):
    """Dicts of 0, or 1 for at least 1, for so many names that each imax is decided."""
    cases = []
    started = [{}]
    while started:
        case = started.pop()
        name = _open_name(steps, case)
        if name is None:
            cases.append(case)
        else:
            started.append({**case, name: 1})
            started.append({**case, name: 0})
    return cases


def _open_name(steps, case):
    """A name on which it hangs in a case whether an imax is 0, or None if all are decided."""
    # On the pile: 0, or 1 for at least 1, or a name that is not in the case and decides.
    pile = []
    for kind, thing in steps:
        if kind == "number":
            pile.append(min(thing, 1))
        elif kind == "name":
            pile.append(case.get(thing, thing))
        elif kind == "+":
            last = pile.pop()
            pile.append(last if thing == 0 else 1)
        else:
            taken = pile[-thing:] if kind == "max" else pile[-1:]
            del pile[-thing:]
            undecided = [name for name in taken if name not in (0, 1)]
            if kind == "imax" and undecided:
                return undecided[0]
            pile.append(1 if 1 in taken else (undecided[0] if undecided else 0))
    return None
