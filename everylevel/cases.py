"""Cases: names that are 0 and names that are at least 1, so that each imax is decided.

In a case a level is the greatest of atoms, and demands are bounds: a bound (x, a, right) says
that x + a is at most the greatest y + b of the pairs (y, b) in right. There x and y are names,
or "", which stands for 0.
"""


def atoms_in(steps, zeros):
    """The atoms of a level in a case, each name with its greatest number, in a dict."""
    pile = []
    for kind, thing in steps:
        if kind == "number":
            pile.append({"": thing})
        elif kind == "name":
            pile.append({"": 0} if thing in zeros else {thing: 0})
        elif kind == "+":
            last = pile.pop()
            pile.append({name: number + thing for name, number in last.items()})
        else:
            taken = pile[-thing:]
            del pile[-thing:]
            pile.append({"": 0} if kind == "imax" and taken[-1] == {"": 0} else _greatest(taken))
    return pile[0]


def _greatest(dicts):
    """The atoms of the greatest of some levels."""
    best = {}
    for found in dicts:
        for name, number in found.items():
            best[name] = max(number, best.get(name, 0))
    return best


def least_atoms(steps, zeros):
    """The lot of the atoms of a level in a case, as few as possible."""
    found = atoms_in(steps, zeros)
    pairs = [(name, number) for name, number in found.items() if name != ""]
    # All other names are at least 1, so each of the pairs is worth at least its number + 1.
    if "" in found and all([found[""] > number + 1 for name, number in pairs]):
        pairs.append(("", found[""]))
    return tuple(sorted(pairs))


def cases_of(steps):
    """Dicts of 0, or 1 for at least 1, for so many names that each imax is decided."""
    cases = []
    started = [{}]
    while started:
        case = started.pop()
        name = _open_name(steps, case)
        if name is None:
            cases.append(case)
        else:
            started.append({**case, name: 1})
            started.append({**case, name: 0})
    return cases


def _open_name(steps, case):
    """A name on which it hangs in a case whether an imax is 0, or None if all are decided."""
    # On the pile: 0, or 1 for at least 1, or a name that is not in the case and decides.
    pile = []
    for kind, thing in steps:
        if kind == "number":
            pile.append(min(thing, 1))
        elif kind == "name":
            pile.append(case.get(thing, thing))
        elif kind == "+":
            last = pile.pop()
            pile.append(last if thing == 0 else 1)
        else:
            taken = pile[-thing:] if kind == "max" else pile[-1:]
            del pile[-thing:]
            undecided = [name for name in taken if name not in (0, 1)]
            if kind == "imax" and undecided:
                return undecided[0]
            pile.append(1 if 1 in taken else (undecided[0] if undecided else 0))
    return None


def steps_in(demands):
    """The steps of all levels of some demands, by their parts, one behind the other."""
    return tuple([step for low, _, high in demands for step in low + high])


def sides_of(parts):
    """What a demand, by its parts, says: rows (low, more, high) for low + more <= high."""
    low, relation, high = parts
    if relation == "=":
        return ((low, 0, high), (high, 0, low))
    return ((low, 1 if relation == "<" else 0, high),)


def denials_of(parts):
    """The rows, like the parts of a demand, of which one is true exactly if the demand is not."""
    low, relation, high = parts
    if relation == "=":
        return ((low, "<", high), (high, "<", low))
    return ((high, "<" if relation == "<=" else "<=", low),)


def bounds_in(case, names, demands):
    """The bounds of names, and of demands by their parts, in a case.

    Names that are not in the case are at least 0. What is true by itself is left out.
    """
    zeros = [name for name in case if case[name] == 0]
    bounds = [("", case.get(name, 0), ((name, 0),)) for name in names if name not in zeros]
    for parts in demands:
        for low, more, high in sides_of(parts):
            right = atoms_in(high, zeros)
            for x, number in atoms_in(low, zeros).items():
                if right.get(x, -1) < number + more:
                    bounds.append((x, number + more, tuple(right.items())))
    return bounds
