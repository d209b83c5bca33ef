"""Sieves: what they are by their form, and whether one holds by a look."""

from plansamid.worths import cells_from_left, is_part, may_fault, told_by

_PAIRED = ("alike", "unlike", "below")


def is_sieve(thing):
    if not isinstance(thing, tuple):
        return False
    if len(thing) == 2:
        return thing[0] == "lacking" and is_part(thing[1])
    return len(thing) == 3 and thing[0] in _PAIRED and is_part(thing[1]) and is_part(thing[2])


def sieve_cells_from_left(sieve):
    """The cells as they stand in the sieve, each as often as it stands."""
    return [cell for part in sieve[1:] for cell in cells_from_left(part)]


def sieve_cells(sieve):
    return sorted(set(sieve_cells_from_left(sieve)))


def sieve_may_fault(sieve):
    return any([may_fault(part) for part in sieve[1:]])


def holds(sieve, look):
    # All parts are looked at ahead of the word: the second may be refused all the same.
    worths = [told_by(part, look) for part in sieve[1:]]
    if sieve[0] == "lacking":
        return worths[0] is None
    first, second = worths
    if first is None or second is None:
        return False
    if sieve[0] == "alike":
        return first == second
    if sieve[0] == "unlike":
        return first != second
    return first < second
