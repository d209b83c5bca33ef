"""Worths and parts: what they are by their form, and what a part tells by a look."""

from plansamid.errors import NoWorth

_LETTERS = "abcdefghijklmnopqrstuvwxyz"
_LONGEST_NAME = 8
# The least number of thirty-one figures.
_TOO_GREAT = 10 ** 30
_DEEPEST = 5
_MOST_PARTS = 15
_SIGNS = ("plus", "less", "times", "over")


def is_name(thing):
    if not isinstance(thing, str) or not 1 <= len(thing) <= _LONGEST_NAME:
        return False
    return all([letter in _LETTERS for letter in thing])


def is_whole(thing):
    """Whether it is a whole number; a truth is none, though Python counts it as an int."""
    return isinstance(thing, int) and not isinstance(thing, bool)


def is_number(thing):
    """Whether it is a whole number of at most thirty figures."""
    return is_whole(thing) and -_TOO_GREAT < thing < _TOO_GREAT


def is_worth(thing):
    return thing is None or is_number(thing)


def is_part(thing):
    return 1 <= _count_parts(thing, 1) <= _MOST_PARTS


def _count_parts(thing, deep):
    """How many parts it has, or 0 where it is none, or goes on below the deepest."""
    if not isinstance(thing, tuple) or deep > _DEEPEST:
        return 0
    if len(thing) == 2:
        return 1 if thing[0] == "number" and is_number(thing[1]) else 0
    if len(thing) != 3:
        return 0
    if thing[0] == "cell":
        return 1 if is_name(thing[1]) and is_name(thing[2]) else 0
    if thing[0] not in _SIGNS:
        return 0
    first = _count_parts(thing[1], deep + 1)
    second = _count_parts(thing[2], deep + 1)
    return 1 + first + second if first > 0 and second > 0 else 0


def cells_from_left(part):
    """The cells as they stand in the part, each as often as it stands."""
    if part[0] == "cell":
        return [(part[1], part[2])]
    if part[0] == "number":
        return []
    return cells_from_left(part[1]) + cells_from_left(part[2])


def cells_of(part):
    return sorted(set(cells_from_left(part)))


def may_fault(part):
    if part[0] not in _SIGNS:
        return False
    return part[0] == "over" or may_fault(part[1]) or may_fault(part[2])


def told_by(part, look):
    word = part[0]
    if word == "cell":
        return look[(part[1], part[2])]
    if word == "number":
        return part[1]
    # Both are looked at ahead of None: the second may be refused all the same.
    first = told_by(part[1], look)
    second = told_by(part[2], look)
    if first is None or second is None:
        return None
    return _joined_by(word, first, second)


def _joined_by(word, first, second):
    if word == "plus":
        return first + second
    if word == "less":
        return first - second
    if word == "times":
        return first * second
    if second == 0:
        raise NoWorth()
    return first // second
