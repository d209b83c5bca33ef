"""Counts of tables, and how much a plan is guessed to look at by them."""

from plansamid.plans import led_to, links_of, plans_of


def counts_of(tables, *, moment=None):
    return {name: _counted(tables, name, moment) for name in tables.names(moment=moment)}


def _counted(tables, name, moment):
    rows = [worths for number, worths in tables.rows(name, moment=moment)]
    unlikes = {}
    for at, column in enumerate(tables.columns(name, moment=moment)):
        unlikes[column] = len(set([worths[at] for worths in rows]))
    return (len(rows), unlikes)


def guess(ask, plan, counts):
    order, way = plan
    links = links_of(ask, plan)
    many = _rows_in(ask, order[0], counts)
    looks = 1 + many
    for number in led_to(ask, plan):
        rows = _rows_in(ask, number, counts)
        share = _share_of(ask, number, links, counts)
        if way == "kept" and number in links:
            looks += rows + many * share
        else:
            looks += many * rows
        if number in order:
            many = many * share
    return looks


def _rows_in(ask, number, counts):
    rows, unlikes = counts.get(ask[0][number][2], (1, {}))
    return rows


def _share_of(ask, number, links, counts):
    """How many rows are guessed to fit the source's link: all where it has none."""
    rows, unlikes = counts.get(ask[0][number][2], (1, {}))
    if number not in links:
        return rows
    unlike = max(1, unlikes.get(links[number][0], 1))
    # Rounded up in whole numbers, that the greatest come out exactly too.
    return -(-rows // unlike)


def guessed(ask, counts):
    plans = sorted([(guess(ask, plan, counts), plan) for plan in plans_of(ask)])
    return [plan for looks, plan in plans]
