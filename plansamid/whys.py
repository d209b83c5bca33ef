"""What became of places in a run, and why an ask doesn't tell them."""

from plansamid.alike import is_just
from plansamid.boxes import round_about, slab_of
from plansamid.errors import NoPlaces
from plansamid.plainly import fitting, joined, judged, lone_row, look_at_sieves, rows_of_source
from plansamid.worths import is_whole


def became(run, places):
    ask, moment = run.ask(), run.moment()
    placed = _placed(ask, places)
    positions = []
    for i, number in placed:
        if ask[0][i][0] == "with":
            numbers = [at for at, worths in run.tables().rows(ask[0][i][2], moment=moment)]
            if number not in numbers:
                return ("gone", i)
            positions.append(round_about(numbers, run.starts()[i]).index(number))
    k = slab_of(run.slabs(), tuple(positions))
    if k is None:
        return ("yet",)
    why, look = _why_and_look(run.tables(), ask, placed, moment)
    if why is not None:
        return why + (k,)
    worths, what = judged(ask, look)
    return ("row", k) if what is None else ("fault", what, k)


def why_not(tables, ask, places, *, moment=None):
    why, look = _why_and_look(tables, ask, _placed(ask, places), moment)
    return why


def lets_why(tables, ask, places, thing, *, moment=None):
    return is_just(thing, why_not(tables, ask, places, moment=moment))


def _placed(ask, places):
    """Of each source that has a place its number, and what the place is; refused where they are no places."""
    sources = [i for i, source in enumerate(ask[0]) if source[0] != "none"]
    if not isinstance(places, tuple) or len(places) != len(sources):
        raise NoPlaces()
    for place in places:
        if place is not None and (not is_whole(place) or place < 0):
            raise NoPlaces()
    return list(zip(sources, places))


def _why_and_look(tables, ask, placed, moment):
    """The why, or None; and the look, or None where a row is gone."""
    one = ((), {})
    for i, number in placed:
        source = ask[0][i]
        rows = dict(rows_of_source(tables, source, moment))
        if number is None and source[0] == "perhaps":
            one = joined(one, source, lone_row(tables, source, moment))
        elif number in rows:
            one = joined(one, source, (number, rows[number]))
        else:
            return (("gone", i), None)
    numbers, look = one
    why = _why_of_pairs(ask, placed, look)
    if why is None:
        why = _why_of_others(tables, ask, placed, look, moment)
    if why is None:
        why = _why_of_sieves(ask, look)
    return (why, look)


def _why_of_pairs(ask, placed, look):
    """The first pair that doesn't fit, of a source that has a row."""
    for i, number in placed:
        way, own, table, pairs = ask[0][i]
        for j, (column, alias, column2) in enumerate(pairs):
            if number is not None and look[(own, column)] != look[(alias, column2)]:
                return ("pair", i, j)
    return None


def _why_of_others(tables, ask, placed, look, moment):
    """A "none" source's row that fits; behind them a "perhaps" source's, that has None there."""
    for i, source in enumerate(ask[0]):
        if source[0] == "none":
            fit = fitting(rows_of_source(tables, source, moment), source[3], look)
            if fit:
                number, worths = fit[0]
                return ("none", i, number)
    for i, number in placed:
        if number is None and fitting(rows_of_source(tables, ask[0][i], moment), ask[0][i][3], look):
            return ("lone", i)
    return None


def _why_of_sieves(ask, look):
    """The first sieve that doesn't hold, where none faults ahead of it."""
    for k, sieve in enumerate(ask[1]):
        held, what = look_at_sieves((sieve,), look)
        if what is not None:
            return None
        if not held:
            return ("sieve", k)
    return None
