"""Values of many kinds, for functions that judge any value."""

from daychains.calendars import Calendar


class IntLike:
    """Not an integer, though it can stand for one."""

    def __index__(self):
        return 3

    def __int__(self):
        return 3


class EqualToAll:
    """Says that it is equal to everything, and does not let itself be shown."""

    __hash__ = None

    def __eq__(self, other):
        return True

    def __repr__(self):
        raise RuntimeError("not to be shown")


def nested(levels):
    value = []
    for _ in range(levels - 1):
        value = [value]
    return value


# None of these is an integer, a string, a list or a tuple.
ODD_VALUES = [
    None, True, False, b"", b"o", b"ny", {}, {"ny": 1}, {0: 7}, {7, 8}, set(), {(7, 7)}, frozenset([(7, 7)]),
    range(3), iter([(7, 7)]), {(7, 7): 1}.keys(), object(), IntLike(), EqualToAll(), int, str, list, len,
    bytearray(b"o"), memoryview(b"o"), NotImplemented, Ellipsis, ValueError("ny"), 1j,
    Calendar("o"), Calendar, (entry for entry in ["ny"]), lambda: "ny",
]

STRINGS = ["", " ", "\n", "\t", "0", "7", "-7", "ny ", "NY", "n+", "++", "o-x", "abcdefghi", "no one", "o" * 3000]
INTEGERS = [0, 1, 7, -1, 10 ** 30, -10 ** 31, 10 ** 5000]
TUPLES = [(), (1,), (1, 2), ("ny", "+"), ("o",), ((7, 8),), ([7, 8],), (None,), (1, 2, 3)]
LISTS = [[], [1], [1, 2], ["ny", "+"], ["o"], [(7, 8)], [[7, 8]], [None], [["ny"]], nested(40)]

ANY_VALUES = ODD_VALUES + STRINGS + INTEGERS + TUPLES + LISTS
NO_INTEGERS = ODD_VALUES + STRINGS + TUPLES + LISTS
NO_STRINGS = ODD_VALUES + INTEGERS + TUPLES + LISTS
NO_LISTS = ODD_VALUES + STRINGS + INTEGERS + TUPLES

NO_RULES = [["ny", ""], ["ny", None], [["ny"]], ["ny", ["+"]], ["ny", "++"], ["+ "], ["ny", "Ny"], [1], [True],
            [b"ny"], [("ny",)], ["ny+"], ["abcdefghi"], ["+"] * 200 + [0], [EqualToAll()], [{}], [{"ny"}]]
NOT_RULES = NO_RULES + NO_LISTS + ["ny", ("ny",), (), {"ny": "+"}]

# Lists, but not of one or more rules; and all that is no list.
NOT_LISTS_OF_RULES = [[]] + [[value] for value in NOT_RULES] + [[["ny"], value] for value in NOT_RULES]
NOT_LISTS_OF_RULES += NO_LISTS + [["ny"], ["ny", "+"], (["ny"],), "ny", {"ny": ["ny"]}]

NO_CALENDARS = [{"ny": None}, {"ny": "o"}, {"ny": ("o", (), ())}, {"ny": {}}, {"ny": [Calendar("o")]}, {"ny": Calendar},
                {"NY": Calendar("o")}, {"": Calendar("o")}, {"+": Calendar("o")}, {"abcdefghi": Calendar("o")},
                {1: Calendar("o")}, {None: Calendar("o")}, {True: Calendar("o")}, {b"ny": Calendar("o")},
                {("ny",): Calendar("o")}, {"ny": Calendar("o"), "ldn": None},
                {"ny": Calendar("o"), "l n": Calendar("o")}, {"ny": EqualToAll()},
                [("ny", Calendar("o"))], (("ny", Calendar("o")),), [{"ny": Calendar("o")}],
                Calendar("o"), {"ny"}, "ny", {"ny": Calendar("o")}.items()]
NOT_CALENDARS = NO_CALENDARS + [value for value in ANY_VALUES if not isinstance(value, dict) or len(value) > 0]
