"""What names and numbers are, and levels and demands as steps.

The steps of a level stand in the order in which they are done: ("number", k) and ("name", u)
put a value on a pile, ("+", k) adds to the last value there, ("max", n) and ("imax", 2) put
one value in the place of the last n. Unlike a tree, such a row is gone through without
recursion, so a level may be nested as deep as it likes.

The parts of a demand are a tuple of the steps of its left side, its sign and the steps of its
right side.
"""

from everylevel.errors import InvalidLevel, InvalidNumbers

CALLS = {"max(": "max", "imax(": "imax"}
SIGNS = ("max(", "imax(", " + ", ", ", ")")
RELATIONS = ("<=", "<", "=")


def is_whole(thing):
    """Whether any value is an integer, not a bool."""
    return isinstance(thing, int) and not isinstance(thing, bool)


def is_number(thing):
    """Whether any value is an integer from 0 on."""
    return is_whole(thing) and thing >= 0


def is_sequence(thing):
    """Whether any value is a list or a tuple."""
    return isinstance(thing, (list, tuple))


def is_name(thing):
    """Whether any value is a name."""
    if not isinstance(thing, str) or thing in ("max", "imax"):
        return False
    return len(thing) <= 4 and thing.isascii() and thing.isalpha() and thing.islower()


def are_names(thing):
    """Whether any value is a sequence of unlike names."""
    if not is_sequence(thing) or not all([is_name(name) for name in thing]):
        return False
    return len(set(thing)) == len(thing)


def check_numbers(numbers, many):
    """Raise `InvalidNumbers` if any value is not a sequence of so many numbers."""
    if not is_sequence(numbers) or len(numbers) != many:
        raise InvalidNumbers(0)
    for at, number in enumerate(numbers):
        if not is_number(number):
            raise InvalidNumbers(at)


def tokens_of(text):
    """The signs of a text and the words between them, or None if something is neither."""
    tokens = []
    at = 0
    while at < len(text):
        token = _token_at(text, at)
        if token == "":
            return None
        tokens.append(token)
        at += len(token)
    return tokens


def _token_at(text, at):
    """The sign that begins here, else the letters and digits up to another character."""
    for sign in SIGNS:
        if text.startswith(sign, at):
            return sign
    end = at
    while end < len(text) and text[end].isalnum():
        end += 1
    return text[at:end]


def steps_of(thing):
    """The steps of a level, or None for any other value."""
    tokens = tokens_of(thing) if isinstance(thing, str) else None
    if tokens is None:
        return None
    # `calls` and `counts`: the brackets that are open, and how many levels each has so far.
    steps, calls, counts, wanted = [], [], [], "level"
    for token in tokens:
        leaf = _leaf(token, wanted)
        if leaf is not None:
            steps.append(leaf)
            wanted = "sign"
        elif wanted == "level" and token in CALLS:
            calls.append(CALLS[token])
            counts.append(1)
        elif wanted == "sign" and token == " + ":
            wanted = "number"
        elif wanted == "sign" and token == ", " and calls:
            counts[-1] += 1
            wanted = "level"
        elif wanted == "sign" and token == ")" and calls and _is_full(calls[-1], counts[-1]):
            steps.append((calls.pop(), counts.pop()))
        else:
            return None
    return tuple(steps) if wanted == "sign" and not calls else None


def _leaf(token, wanted):
    """The step that a single word makes where a level or a number is wanted, or None."""
    if wanted == "level" and is_name(token):
        return ("name", token)
    if wanted == "level" and is_numeral(token):
        return ("number", int(token))
    if wanted == "number" and is_numeral(token):
        return ("+", int(token))
    return None


def is_numeral(word):
    """Whether a string is a number in at most 4 decimal digits without leading zeros."""
    if not word.isascii() or not word.isdigit():
        return False
    return len(word) <= 4 and (word == "0" or word[0] != "0")


def _is_full(call, count):
    """Whether a bracket may close behind so many levels."""
    return count >= 2 if call == "max" else count == 2


def read_level(level):
    """The steps of a level; `InvalidLevel` for any other value."""
    steps = steps_of(level)
    if steps is None:
        raise InvalidLevel()
    return steps


def steps_within(thing, names):
    """The steps of a level without other names than these, or None for any other value."""
    steps = steps_of(thing)
    if steps is None or not all([name in names for name in names_in(steps)]):
        return None
    return steps


def read_within(level, names):
    """The steps of a level without other names than these; `InvalidLevel` for any other value."""
    steps = steps_within(level, names)
    if steps is None:
        raise InvalidLevel()
    return steps


def parts_of(thing):
    """The parts of a demand, or None for any other value."""
    if not isinstance(thing, str):
        return None
    for relation in RELATIONS:
        left, found, right = thing.partition(f" {relation} ")
        if found:
            low, high = steps_of(left), steps_of(right)
            return None if low is None or high is None else (low, relation, high)
    return None


def parts_within(thing, names):
    """The parts of a demand without other names than these, or None for any other value."""
    parts = parts_of(thing)
    if parts is None:
        return None
    low, _, high = parts
    return parts if all([name in names for name in names_in(low + high)]) else None


def names_in(steps):
    """The lot of the names in some steps."""
    return tuple(sorted({thing for kind, thing in steps if kind == "name"}))


def worth(steps, numbers):
    """The value of the level, with the numbers in a dict for its names."""
    pile = []
    for kind, thing in steps:
        if kind == "number":
            pile.append(thing)
        elif kind == "name":
            pile.append(numbers[thing])
        elif kind == "+":
            pile.append(pile.pop() + thing)
        else:
            taken = pile[-thing:]
            del pile[-thing:]
            pile.append(0 if kind == "imax" and taken[-1] == 0 else max(taken))
    return pile[0]


def peak(steps):
    """The value where all names are 0 and each imax is a max: no number in an atom is greater."""
    plain = [("max", thing) if kind == "imax" else (kind, thing) for kind, thing in steps]
    return worth(plain, {name: 0 for name in names_in(steps)})


def is_true(parts, numbers):
    """Whether a demand, by its parts, is true for the numbers in a dict."""
    low, relation, high = parts
    left, right = worth(low, numbers), worth(high, numbers)
    if relation == "<=":
        return left <= right
    return left < right if relation == "<" else left == right
