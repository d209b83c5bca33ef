"""Asks: what they are by their form, and whether tables have all that one names."""

from plansamid.errors import NoAsk
from plansamid.sieves import is_sieve, sieve_cells, sieve_cells_from_left
from plansamid.worths import cells_from_left, cells_of, is_name, is_part, is_whole

_WAYS = ("with", "perhaps", "none")
_WORDS = ("count", "sum", "least", "most")
_MOST_SOURCES = 5
_MOST_WITHS = 3
_MOST_OTHERS = 2
_MOST_PAIRS = 2
_MOST_SIEVES = 4
_MOST_TOLD = 4
_MOST_KEYS = 2
_MOST_SUMS = 3
_MOST_ORDERS = 2
_MOST_FIRST = 60


def is_ask(thing):
    if not isinstance(thing, tuple) or len(thing) != 6:
        return False
    sources, sieves, telling, order, first, struck = thing
    if not _are_sources(sources):
        return False
    aliases = [source[1] for source in sources if source[0] != "none"]
    if not _are_sieves(sieves, aliases) or not _is_telling(telling, aliases):
        return False
    if not _is_order(order, len(_parts_of(telling))) or not _is_first(first):
        return False
    return isinstance(struck, bool) and not (struck and telling[0] == "groups")


def _are_sources(thing):
    if not isinstance(thing, tuple) or not 1 <= len(thing) <= _MOST_SOURCES:
        return False
    if not all([_is_source(source) for source in thing]):
        return False
    ways = [source[0] for source in thing]
    aliases = [source[1] for source in thing]
    withs = ways.count("with")
    if not 1 <= withs <= _MOST_WITHS or len(ways) - withs > _MOST_OTHERS:
        return False
    if "with" in ways[withs:] or len(set(aliases)) != len(aliases):
        return False
    return all([_are_pairs(source[3], aliases[:min(number, withs)])
                for number, source in enumerate(thing)])


def _is_source(thing):
    """Whether it is a source by its form, whatever its pairs are."""
    if not isinstance(thing, tuple) or len(thing) != 4 or thing[0] not in _WAYS:
        return False
    return is_name(thing[1]) and is_name(thing[2])


def _are_pairs(thing, ahead):
    """Whether they are pairs with sources of the aliases ahead."""
    if not isinstance(thing, tuple) or len(thing) > _MOST_PAIRS:
        return False
    return all([_is_pair(pair, ahead) for pair in thing])


def _is_pair(thing, ahead):
    if not isinstance(thing, tuple) or len(thing) != 3:
        return False
    return is_name(thing[0]) and thing[1] in ahead and is_name(thing[2])


def _are_sieves(thing, aliases):
    if not isinstance(thing, tuple) or len(thing) > _MOST_SIEVES:
        return False
    return all([is_sieve(sieve) and _are_of(sieve_cells(sieve), aliases) for sieve in thing])


def _are_of(cells, aliases):
    return all([alias in aliases for alias, column in cells])


def _are_parts(thing, least, most, aliases):
    if not isinstance(thing, tuple) or not least <= len(thing) <= most:
        return False
    return all([is_part(part) and _are_of(cells_of(part), aliases) for part in thing])


def _is_telling(thing, aliases):
    if not isinstance(thing, tuple):
        return False
    if len(thing) == 2:
        return thing[0] == "rows" and _are_parts(thing[1], 1, _MOST_TOLD, aliases)
    if len(thing) != 3 or thing[0] != "groups":
        return False
    return _are_parts(thing[1], 0, _MOST_KEYS, aliases) and _are_sums(thing[2], aliases)


def _are_sums(thing, aliases):
    if not isinstance(thing, tuple):
        return False
    for one in thing:
        if not isinstance(one, tuple) or len(one) != 2 or one[0] not in _WORDS:
            return False
    return _are_parts(tuple([part for word, part in thing]), 1, _MOST_SUMS, aliases)


def _is_order(thing, columns):
    """Whether it is an order by told columns, of which there are so many."""
    if not isinstance(thing, tuple) or len(thing) > _MOST_ORDERS:
        return False
    for one in thing:
        if not isinstance(one, tuple) or len(one) != 2 or one[1] not in ("up", "down"):
            return False
    numbers = [number for number, way in thing]
    if not all([is_whole(number) and 0 <= number < columns for number in numbers]):
        return False
    return len(set(numbers)) == len(numbers)


def _is_first(thing):
    return thing is None or (is_whole(thing) and 1 <= thing <= _MOST_FIRST)


def _parts_of(telling):
    if telling[0] == "rows":
        return list(telling[1])
    return list(telling[1]) + [part for word, part in telling[2]]


def told_parts(ask):
    """The parts of the telling in their order: of groups the keys, then the sums' parts."""
    return _parts_of(ask[2])


def is_sorted(ask):
    return ask[3] != () or ask[4] is not None or ask[2][0] == "groups"


def need_ask(tables, ask, *, moment=None):
    columns = {name: tables.columns(name, moment=moment) for name in tables.names(moment=moment)}
    table_of = {alias: table for way, alias, table, pairs in ask[0]}
    for name in named_in(ask):
        if isinstance(name, str):
            there = name in columns
        else:
            alias, column = name
            # The table of the alias was named ahead of all its columns.
            there = column in columns[table_of[alias]]
        if not there:
            raise NoAsk(name)


def named_in(ask):
    """The names of tables, and the cells, in the order in which they are needed."""
    names = []
    for way, alias, table, pairs in ask[0]:
        names.append(table)
        for column, other, column2 in pairs:
            names.extend([(alias, column), (other, column2)])
    for sieve in ask[1]:
        names.extend(sieve_cells_from_left(sieve))
    for part in told_parts(ask):
        names.extend(cells_from_left(part))
    return names
