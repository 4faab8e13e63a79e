"""The refusals, each straight under FoldError; what they tell are their fields."""


class FoldError(ValueError):
    """Any refusal."""


class NoColumns(FoldError):
    """No such columns."""


class NoStretch(FoldError):
    """No stretch from a low whole number to a high one."""


class NoCosts(FoldError):
    """No dict of whole numbers by column and value."""


class NothingDone(FoldError):
    """No deed stands that could be undone."""


class NoRow(FoldError):
    """No such row; at is its number."""

    def __init__(self, at):
        self.at = at


class NoTree(FoldError):
    """No tree; at is the number of the first thing that is no pair, -1 of what is no list."""

    def __init__(self, at):
        self.at = at


class NoFold(FoldError):
    """No folded thing; at is the number of the first thing that is no bunch."""

    def __init__(self, at):
        self.at = at


class NoPaper(FoldError):
    """No such paper; at is the number of what doesn't hold."""

    def __init__(self, at):
        self.at = at


class NoPlace(FoldError):
    """No row has this number; at is it."""

    def __init__(self, at):
        self.at = at


class NoText(FoldError):
    """No such text; at is where it goes wrong, -1 of what is no text."""

    def __init__(self, at):
        self.at = at


class NoLine(FoldError):
    """No such line; at is the number of its first wrong word, -1 of what is no text."""

    def __init__(self, at):
        self.at = at


class NoColumn(FoldError):
    """No such column; name is what was handed in."""

    def __init__(self, name):
        self.name = name


class NoName(FoldError):
    """No such name, or one that is taken; name is what was handed in."""

    def __init__(self, name):
        self.name = name


class NoTurn(FoldError):
    """The tree can't be turned so; name is the column."""

    def __init__(self, name):
        self.name = name


class NoFit(FoldError):
    """The tree doesn't fit; one and other are the two columns."""

    def __init__(self, one, other):
        self.one = one
        self.other = other


class NoBunch(FoldError):
    """No number of such a bunch; number is what was handed in."""

    def __init__(self, number):
        self.number = number


class TooMany(FoldError):
    """Too many to be told; many is how many."""

    def __init__(self, many):
        self.many = many
