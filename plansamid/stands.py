"""Stands: what a stopped run stands at, and runs that are taken up from it."""

from plansamid.asks import is_ask, need_ask
from plansamid.errors import NoStand, Unlike
from plansamid.rules import is_rule
from plansamid.runs import Run
from plansamid.worths import is_whole


def stand_of(run):
    # Ahead of all else, since it is refused amid a turn.
    state = run.state()
    ask = run.ask()
    there = _there(run.tables(), ask, run.moment())
    return (ask, run.rule(), run.moment(), _of_plain_kinds(run.counts(), ask), run.starts(), there, state)


def taken_up(tables, stand, *, watcher=None):
    if not _is_stand(stand):
        raise NoStand()
    ask, rule, moment, counts, starts, there, state = stand
    if moment > tables.moment():
        raise Unlike()
    need_ask(tables, ask, moment=moment)
    if _there(tables, ask, moment) != there:
        raise Unlike()
    run = Run(tables, ask, rule=rule, moment=moment, counts=_counts_in(counts), starts=starts, watcher=watcher)
    run.go_on(state)
    return run


def _is_stand(thing):
    """Whether it has the form of a stand; what its inner tuples hold isn't looked at."""
    if not isinstance(thing, tuple) or len(thing) != 7:
        return False
    ask, rule, moment = thing[:3]
    if not is_ask(ask) or not is_rule(ask, rule) or not is_whole(moment):
        return False
    return all([isinstance(one, tuple) for one in thing[3:]])


def _tables_of(ask):
    """The names of the ask's tables, rising."""
    return sorted(set([table for way, alias, table, pairs in ask[0]]))


def _there(tables, ask, moment):
    """Of each of the ask's tables its columns and its rows at the moment."""
    return tuple([(name, tables.columns(name, moment=moment), tuple(tables.rows(name, moment=moment)))
                  for name in _tables_of(ask)])


def _of_plain_kinds(counts, ask):
    """The counts of the ask's tables: no plan is guessed by those of others."""
    written = []
    for name in _tables_of(ask):
        if name in counts:
            rows, unlikes = counts[name]
            written.append((name, rows, tuple([(column, unlikes[column]) for column in unlikes])))
    return tuple(written)


def _counts_in(written):
    return {name: (rows, {column: unlike for column, unlike in unlikes}) for name, rows, unlikes in written}
