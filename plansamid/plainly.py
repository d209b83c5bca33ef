"""The plain run: an ask gone through combination by combination."""

from plansamid.asks import told_parts
from plansamid.endings import rows_of
from plansamid.errors import NoWorth
from plansamid.sieves import holds
from plansamid.worths import told_by


def combinations(tables, ask, *, moment=None):
    return [numbers for numbers, look in _combined(tables, ask, moment)]


def founds(tables, ask, *, moment=None):
    return [places for places, look in _found(tables, ask, moment)]


def plainly(tables, ask, *, moment=None):
    found = []
    faults = []
    for places, look in _found(tables, ask, moment):
        worths, what = judged(ask, look)
        if what is not None:
            faults.append((places, what))
        elif worths is not None:
            found.append((places, worths))
    return (rows_of(ask, found), faults)


def judged(ask, look):
    """Of a found one what the telling's parts tell, and its fault: one of them is None; both, where it is dropped."""
    held, what = look_at_sieves(ask[1], look)
    if not held:
        return (None, what)
    return look_at_parts(told_parts(ask), look)


def look_at_sieves(sieves, look):
    """Whether all hold, and the fault of the first that faults ahead of one that doesn't."""
    for number, sieve in enumerate(sieves):
        try:
            held = holds(sieve, look)
        except NoWorth:
            return (False, ("sieve", number))
        if not held:
            return (False, None)
    return (True, None)


def look_at_parts(parts, look):
    """What the parts tell, or None and the fault of the first that faults."""
    worths = []
    for number, part in enumerate(parts):
        try:
            worths.append(told_by(part, look))
        except NoWorth:
            return (None, ("tell", number))
    return (tuple(worths), None)


def _combined(tables, ask, moment):
    """The combinations, rising, each with its look."""
    combined = [((), {})]
    for source in ask[0]:
        if source[0] == "with":
            rows = rows_of_source(tables, source, moment)
            combined = [joined(one, source, row) for one in combined
                        for row in fitting(rows, source[3], one[1])]
    return combined


def _found(tables, ask, moment):
    """The found ones in the order of places, each with its look."""
    found = _combined(tables, ask, moment)
    for source in ask[0]:
        if source[0] == "none":
            rows = rows_of_source(tables, source, moment)
            found = [one for one in found if not fitting(rows, source[3], one[1])]
    # Behind all that is dropped, that no more are made than are found.
    for source in ask[0]:
        if source[0] == "perhaps":
            rows = rows_of_source(tables, source, moment)
            lone = lone_row(tables, source, moment)
            found = [joined(one, source, row) for one in found
                     for row in fitting(rows, source[3], one[1]) or [lone]]
    return found


def rows_of_source(tables, source, moment):
    """The rows of its table, each its number and a dict from columns to worths."""
    columns = tables.columns(source[2], moment=moment)
    rows = []
    for number, worths in tables.rows(source[2], moment=moment):
        rows.append((number, {column: worth for column, worth in zip(columns, worths)}))
    return rows


def lone_row(tables, source, moment):
    """What stands for a row of a source of which none fits."""
    return (None, {column: None for column in tables.columns(source[2], moment=moment)})


def fitting(rows, pairs, look):
    """Those of a source's rows that fit all the pairs by the look."""
    return [(number, row) for number, row in rows
            if all([row[column] == look[(alias, column2)] for column, alias, column2 in pairs])]


def joined(one, source, row):
    """What is found so far with a row of one more source."""
    numbers, look = one
    number, worths = row
    grown = {cell: look[cell] for cell in look}
    for column in worths:
        grown[(source[1], column)] = worths[column]
    return (numbers + (number,), grown)
