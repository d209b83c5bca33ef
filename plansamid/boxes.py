"""What is yet to be met: choices of a row of each source, met slab by slab."""

from plansamid.worths import is_whole


def round_about(rows, start):
    """The rows from the start on, those ahead of it behind the others."""
    return rows[start:] + rows[:start]


def are_whole(sizes, thing):
    if not isinstance(thing, list):
        return False
    rest = list(sizes)
    for slab in thing:
        # Where a source is through, or has no row, all is met: nothing may stand behind that.
        if 0 in rest or not _is_slab(rest, slab):
            return False
        source, many = slab
        rest[source] -= many
    return 0 in rest


def _is_slab(rest, thing):
    """Whether it is a slab where so many rows are left of the sources."""
    if not isinstance(thing, tuple) or len(thing) != 2:
        return False
    source, many = thing
    if not is_whole(source) or not is_whole(many) or not 0 <= source < len(rest):
        return False
    return 1 <= many <= rest[source]


def slab_of(slabs, positions):
    done = [0 for position in positions]
    for number, (source, many) in enumerate(slabs):
        yet = all([position >= first for position, first in zip(positions, done)])
        done[source] += many
        if yet and positions[source] < done[source]:
            return number
    return None


def met_by(sizes, slabs):
    rest = list(sizes)
    met = []
    for source, many in slabs:
        choices = many
        for other, rows in enumerate(rest):
            if other != source:
                choices = choices * rows
        met.append(choices)
        rest[source] -= many
    return met


def left(sizes, slabs):
    rest = list(sizes)
    for source, many in slabs:
        rest[source] -= many
    return rest
