"""The errors of the package, each with what it was created with."""


class LevelError(ValueError):
    """What is passed is wrong, or can't be had."""


class InvalidLevel(LevelError):
    """This is no level, or not one of these names."""


class InvalidDemand(LevelError):
    """This is no demand, or not one of these names."""


class InvalidBook(LevelError):
    """No book is made of this: `word` is the parameter that is wrong."""

    def __init__(self, word):
        self.word = word


class InvalidText(LevelError):
    """This is no text of a book: `at` is the number of its first wrong line."""

    def __init__(self, at):
        self.at = at


class InvalidNumbers(LevelError):
    """These are no numbers for the names: `at` is the index of the first wrong one."""

    def __init__(self, at):
        self.at = at


class InvalidDefinition(LevelError):
    """No definition is made of this: `word` is the parameter that is wrong."""

    def __init__(self, word):
        self.word = word


class InvalidLibrary(LevelError):
    """No library is made of these: `at` is the index of the first wrong one."""

    def __init__(self, at):
        self.at = at


class InvalidCommand(LevelError):
    """This is no command, or there is no live book for it."""


class NoDemand(LevelError):
    """No demand has the number `at`."""

    def __init__(self, at):
        self.at = at


class Clash(LevelError):
    """Nothing keeps the first `at` demands and the new one."""

    def __init__(self, at):
        self.at = at


class NoName(KeyError):
    """The name `name` is not there."""

    def __init__(self, name):
        self.name = name
