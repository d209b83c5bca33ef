"""The plans of an ask, and the links by which a plan goes from source to source."""

from itertools import permutations


def plans_of(ask):
    withs = [source for source in ask[0] if source[0] == "with"]
    plans = []
    for order in permutations(list(range(len(withs)))):
        plans.append((order, "walked"))
        if links_of(ask, (order, "walked")):
            plans.append((order, "kept"))
    return sorted(plans)


def led_to(ask, plan):
    """The sources but the lead, in the order in which the plan leads to them."""
    order = plan[0]
    return list(order[1:]) + list(range(len(order), len(ask[0])))


def links_of(ask, plan):
    sources = ask[0]
    order = plan[0]
    links = {}
    for place, number in enumerate(order):
        pairs = pairs_between(sources, number, order[:place])
        if pairs:
            links[number] = pairs[0]
    for number in range(len(order), len(sources)):
        pairs = sources[number][3]
        if pairs:
            links[number] = pairs[0]
    return links


def keeps_of(ask, plan):
    """The sources that the plan keeps, in the order in which it leads to them."""
    if plan[1] != "kept":
        return []
    links = links_of(ask, plan)
    return [number for number in led_to(ask, plan) if number in links]


def pairs_between(sources, number, ahead):
    """The pairs that tie the source to those ahead, in order, its own column first."""
    own = sources[number][1]
    aliases = [sources[at][1] for at in ahead]
    tied = []
    for way, alias, table, pairs in sources:
        for column, other, column2 in pairs:
            if alias == own and other in aliases:
                tied.append((column, other, column2))
            elif other == own and alias in aliases:
                tied.append((column2, alias, column))
    return tied
