"""Definitions, which call one another, and libraries of them."""

from everylevel.basics import are_names, is_name, is_sequence, parts_within, read_within, steps_within
from everylevel.books import Book
from everylevel.errors import InvalidDefinition, InvalidLibrary, NoName
from everylevel.following import follows
from everylevel.leaving import narrowed
from everylevel.levels import put_for
from everylevel.solutions import can_be


class Definition:
    """A name, parameters, inner names, demands between them, and calls of other definitions."""

    def __init__(self, name, params, inner, demands, calls=()):
        if not is_name(name):
            raise InvalidDefinition("name")
        if not are_names(params) or len(params) == 0:
            raise InvalidDefinition("params")
        if not are_names(inner) or any([own in params for own in inner]):
            raise InvalidDefinition("inner")
        names = (*params, *inner)
        if not is_sequence(demands) or not all([_is_demand(demand, names) for demand in demands]):
            raise InvalidDefinition("demands")
        if not is_sequence(calls) or not all([_is_call(call, names) for call in calls]):
            raise InvalidDefinition("calls")
        self.name = name
        self.params = tuple(params)
        self.inner = tuple(inner)
        self.demands = tuple(demands)
        self.calls = tuple([(called, tuple(levels)) for called, levels in calls])

    def __eq__(self, other):
        return (isinstance(other, Definition) and self.name == other.name and self.params == other.params
                and self.inner == other.inner and self.demands == other.demands and self.calls == other.calls)


def _is_demand(thing, names):
    """Whether any value is a plain demand with these names."""
    return parts_within(thing, names) is not None and "imax" not in thing


def _is_level(thing, names):
    """Whether any value is a plain level with these names."""
    return steps_within(thing, names) is not None and "imax" not in thing


def _is_call(thing, names):
    """Whether any value is a pair of a name and a sequence of plain levels with these names."""
    if not isinstance(thing, tuple) or len(thing) != 2:
        return False
    called, levels = thing
    return is_name(called) and is_sequence(levels) and all([_is_level(level, names) for level in levels])


class Library:
    """Definitions, each of which calls only such that stand ahead of it."""

    def __init__(self, definitions):
        if not is_sequence(definitions):
            raise InvalidLibrary(0)
        for at, thing in enumerate(definitions):
            if not _can_stand(thing, definitions[:at]):
                raise InvalidLibrary(at)
        self.definitions = tuple(definitions)
        faces = {}
        for definition in self.definitions:
            faces[definition.name] = _face_of(definition, faces)
        self._faces = faces

    def __len__(self):
        return len(self.definitions)

    def lets(self, name, numbers):
        """Whether a call with these numbers is let."""
        return self.face(name).keeps(numbers)

    def face(self, name):
        """A plain book of the parameters that is kept exactly by the numbers with which a call is let."""
        # Not asked of the dict itself: any value can be passed, also one that is no key.
        if name not in list(self._faces):
            raise NoName(name)
        return self._faces[name]

    def fits(self, name, book, levels):
        """Whether a call with the values of these levels is let for all numbers that keep a plain book."""
        face = self.face(name)
        for level in levels:
            read_within(level, book.names)
        return all([follows(book, demand) for demand in _demands_for(face, levels)])

    def stuck(self):
        """The lot of the indexes of the definitions of which no call is let."""
        faces = [self._faces[definition.name] for definition in self.definitions]
        return tuple([at for at, face in enumerate(faces) if not can_be(face)])


def _can_stand(thing, ahead):
    """Whether any value is a definition that can stand behind these."""
    if not isinstance(thing, Definition):
        return False
    counts = {definition.name: len(definition.params) for definition in ahead}
    return thing.name not in counts and all([counts.get(called) == len(levels) for called, levels in thing.calls])


def _face_of(definition, faces):
    """The face of a definition; of each definition that it calls, the face stands in a dict.

    The face of a called definition has no inner names: so those of two calls never meet.
    """
    demands = list(definition.demands)
    for called, levels in definition.calls:
        demands.extend(_demands_for(faces[called], levels))
    return narrowed(Book([*definition.params, *definition.inner], demands), definition.params)


def _demands_for(face, levels):
    """The demands of a face with levels in the place of its names."""
    others = dict(zip(face.names, levels))
    return [_demand_for(demand, others) for demand in face.demands]


def _demand_for(demand, others):
    """A demand of a face with the texts of a dict in the place of names."""
    low, _, high = demand.partition(" <= ")
    return f"{put_for(low, others)} <= {put_for(high, others)}"
