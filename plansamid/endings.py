"""From what was found to the rows that are told: struck, grouped, sorted, the first so many."""


def rows_of(ask, found):
    telling, order, first, struck = ask[2:]
    in_order = by_places(found)
    if telling[0] == "groups":
        rows = _grouped(telling[1], telling[2], in_order)
    elif struck:
        rows = _struck(in_order)
    else:
        rows = [(worths, [places]) for places, worths in in_order]
    rows = _sorted_by(order, rows)
    return rows if first is None else rows[:first]


def places_key(places):
    """By which places stand in order: -1 is None, ahead of all numbers."""
    return tuple([-1 if number is None else number for number in places])


def by_places(found):
    """What was found in the order of places, whatever is told of them."""
    keys = [(places_key(places), at) for at, (places, what) in enumerate(found)]
    return [found[at] for key, at in sorted(keys)]


def _struck(found):
    rows = {}
    for places, worths in found:
        rows.setdefault(worths, []).append(places)
    return [(worths, rows[worths]) for worths in rows]


def _grouped(keys, sums, found):
    groups = {}
    for places, worths in found:
        groups.setdefault(worths[:len(keys)], []).append((places, worths[len(keys):]))
    return [_group_row(key, sums, groups[key]) for key in groups]


def _group_row(key, sums, group):
    told = list(key)
    for at, (word, part) in enumerate(sums):
        told.append(_summed(word, [worths[at] for places, worths in group]))
    return (tuple(told), [places for places, worths in group])


def _summed(word, worths):
    there = [worth for worth in worths if worth is not None]
    if word == "count":
        return len(there)
    if word == "sum":
        return sum(there)
    if word == "least":
        return min(there, default=None)
    return max(there, default=None)


def _sorted_by(order, rows):
    """The rows by the order; those alike in it stay as they stand."""
    keys = [(ranks_of(order, worths), at) for at, (worths, founds) in enumerate(rows)]
    return [rows[at] for key, at in sorted(keys)]


def ranks_of(order, worths):
    """By which worths stand in the order."""
    return tuple([_rank(worths[number], way) for number, way in order])


def _rank(worth, way):
    if worth is None:
        return (0, 0) if way == "up" else (2, 0)
    return (1, worth if way == "up" else -worth)
