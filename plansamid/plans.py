"""The plans of an ask, and the links by which a plan goes from source to source."""

from itertools import permutations


def plans_of(ask):
    withs = [source for source in ask[0] if source[0] == "with"]
    plans = []
    for order in permutations(list(range(len(withs)))):
        plans.append((order, "walked"))
        if links_of(ask, (order, "walked")):
            plans.append((order, "kept"))
    return sorted(plans)


def links_of(ask, plan):
    sources = ask[0]
    order = plan[0]
    links = {}
    for place, number in enumerate(order):
        link = _link_to(sources, number, order[:place])
        if link is not None:
            links[number] = link
    for number in range(len(order), len(sources)):
        pairs = sources[number][3]
        if pairs:
            links[number] = pairs[0]
    return links


def _link_to(sources, number, ahead):
    """The first pair that ties the source to one of those ahead, its own column first."""
    own = sources[number][1]
    aliases = [sources[at][1] for at in ahead]
    for way, alias, table, pairs in sources:
        for column, other, column2 in pairs:
            if alias == own and other in aliases:
                return (column, other, column2)
            if other == own and alias in aliases:
                return (column2, alias, column)
    return None
