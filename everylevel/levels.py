"""Levels: their names and values, their atoms, and how two of them compare."""

from everylevel.basics import names_in, peak, read_level, tokens_of, worth
from everylevel.cases import cases_of, least_atoms
from everylevel.errors import NoName


def names_of(level):
    """The lot of the names of a level."""
    return names_in(read_level(level))


def value(level, numbers):
    """The value of a level, with the numbers in a dict for its names."""
    steps = read_level(level)
    for name in names_in(steps):
        if name not in numbers:
            raise NoName(name)
    return worth(steps, numbers)


def put_for(level, others):
    """The level with the texts of a dict in the place of the names that are its keys."""
    texts = {name: others[name] for name in names_of(level) if name in others}
    for name in texts:
        read_level(texts[name])
    # A text stays one level wherever a name can stand: only ` + k` can come behind it.
    return "".join([texts.get(token, token) for token in tokens_of(level)])


def atoms(level, zeros):
    """The least atoms of a level where the names in `zeros` are 0, all others at least 1."""
    return least_atoms(read_level(level), zeros)


def never_above(one, other):
    """Whether the value of one level is at most that of the other one for all numbers."""
    first, second = read_level(one), read_level(other)
    for numbers in _trials(first, second):
        if worth(first, numbers) > worth(second, numbers):
            return False
    return True


def alike(one, other):
    """Whether two levels have the same value for all numbers."""
    return parting(one, other) is None


def parting(one, other):
    """Some numbers, in a dict, for which two levels are not equal, or None."""
    first, second = read_level(one), read_level(other)
    for numbers in _trials(first, second):
        if worth(first, numbers) != worth(second, numbers):
            return numbers
    return None


def _trials(first, second):
    """Numbers for the names of two levels: if one level can be above the other, then here.

    In a case both levels are the greatest of atoms. Where one is above, it is so by an atom
    (x, j) that the other one does not have with j or more: then it is above for a great x.
    Or it is so by a number: then it is above where all names are as small as they can be.
    """
    names = names_in(first + second)
    great = max(peak(first), peak(second)) + 2
    for case in cases_of(first + second):
        least = {name: case.get(name, 0) for name in names}
        yield least
        for name in names:
            yield {**least, name: great}
