"""Two rules beside one another, and the rule that doubles, on all small tables of an ask."""

from plansamid.asks import named_in
from plansamid.hindsight import hindsight
from plansamid.runs import DOUBLE, Run
from plansamid.tables import Tables

_WORTHS = (0, 1)
_COLUMN_WHERE_NONE_IS_NAMED = "a"


def small_tables(ask, most):
    columns = _columns_of(ask)
    return [_tables_of(columns, choice) for choice in _choices(columns, most)]


def held_together(ask, rule, rule2, *, most=1):
    columns = _columns_of(ask)
    choices = _choices(columns, most)
    looks, looks2 = 0, 0
    for choice in choices:
        tables = _tables_of(columns, choice)
        run = _to_the_end(tables, ask, rule)
        run2 = _to_the_end(tables, ask, rule2)
        if run.answer() != run2.answer():
            return ("parted", choice)
        looks += run.looks()
        looks2 += run2.looks()
    return ("alike", len(choices), looks, looks2)


def worst(ask, *, most=1):
    columns = _columns_of(ask)
    worst_yet = None
    for choice in _choices(columns, most):
        looks, costs = hindsight(_to_the_end(_tables_of(columns, choice), ask, DOUBLE))
        if worst_yet is None or _is_more(looks, min(costs), worst_yet[1], worst_yet[2]):
            worst_yet = (choice, looks, min(costs))
    return worst_yet


def _is_more(looks, cost, looks2, cost2):
    """Whether the first looks by their cost are more; of no looks the cost is 0, too."""
    return looks * max(1, cost2) > looks2 * max(1, cost)


def _to_the_end(tables, ask, rule):
    run = Run(tables, ask, rule=rule)
    while not run.is_done():
        run.turn()
    return run


def _columns_of(ask):
    """By the tables' rising names: the columns that the ask names, rising."""
    table_of = {alias: table for way, alias, table, pairs in ask[0]}
    named = {table: [] for table in sorted(table_of.values())}
    for name in named_in(ask):
        if not isinstance(name, str):
            alias, column = name
            named[table_of[alias]].append(column)
    return {table: sorted(set(named[table])) or [_COLUMN_WHERE_NONE_IS_NAMED] for table in named}


def _choices(columns, most):
    """All choices, rising: for each table the worths of none to most rows."""
    choices = [()]
    for table in columns:
        worths = _rows_of(_WORTHS, len(columns[table]))
        rows = [one for many in range(most + 1) for one in _rows_of(worths, many)]
        choices = [choice + (one,) for choice in choices for one in rows]
    return sorted(choices)


def _rows_of(things, many):
    """All tuples of so many of the things."""
    made = [()]
    for _ in range(many):
        made = [one + (thing,) for one in made for thing in things]
    return made


def _tables_of(columns, choice):
    tables = Tables()
    for table, rows in zip(columns, choice):
        tables.do(("table", table, tuple(columns[table])))
        for worths in rows:
            tables.do(("row", table, worths))
    return tables
