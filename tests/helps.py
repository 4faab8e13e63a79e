"""What the tests share: things of wrong kinds, and a look at refusals."""

from foldbough.errors import FoldError


class Anything:
    """Calls itself equal to all, and can't be hashed."""

    def __eq__(self, other):
        return True

    __hash__ = None


class Brittle:
    """Fails where it is compared, hashed, measured or shown."""

    def __eq__(self, other):
        raise AssertionError("compared")

    def __hash__(self):
        raise AssertionError("hashed")

    def __len__(self):
        raise AssertionError("measured")

    def __repr__(self):
        raise AssertionError("shown")


ANYTHING = Anything()
BRITTLE = Brittle()

# None of these is a whole number, a name, a list of names or rows, or a pair.
ODD = [True, False, 1.0, 1.5, b"a", {}, {"a": 1}, {1}, frozenset(), object(), int, ANYTHING, BRITTLE, [[1]], ([1],)]

NO_NAMES = ODD + [None, 0, 1, "", "A", "aB", "a1", "a b", "a,b", " a", "a_", "a\n", "abcdefghi", "\u00e9", ["a"], ("a",)]

NO_WHOLES = ODD + [None, "", "1", [], [1], (), (1,)]


def refused(test, kind, call, *told, **named):
    """The refusal that the call comes to, which is of just this class."""
    try:
        call(*told, **named)
    except FoldError as error:
        test.assertIs(type(error), kind)
        return error
    test.fail("not refused")


def number_of(test, kind, call, *told, **named):
    return refused(test, kind, call, *told, **named).at


def name_of(test, kind, call, *told, **named):
    return refused(test, kind, call, *told, **named).name
