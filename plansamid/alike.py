"""Things compared with their kinds: a truth is no number, a list no tuple."""

from plansamid.worths import is_whole


def is_just(thing, wanted):
    """Whether a thing, whatever it is, is the same as what is wanted, of tuples, lists, texts, numbers and None."""
    if isinstance(wanted, tuple):
        return isinstance(thing, tuple) and _are_just(thing, wanted)
    if isinstance(wanted, list):
        return isinstance(thing, list) and _are_just(thing, wanted)
    if is_whole(wanted):
        return is_whole(thing) and thing == wanted
    if wanted is None:
        return thing is None
    return isinstance(thing, str) and thing == wanted


def _are_just(things, wanted):
    if len(things) != len(wanted):
        return False
    return all([is_just(thing, one) for thing, one in zip(things, wanted)])
