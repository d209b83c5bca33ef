"""Rules: which plan is tried next, with which budget, for how many rows."""

from plansamid.counts import guess, guessed
from plansamid.plans import plans_of
from plansamid.worths import is_whole

_MOST_TIMES = 10
_MOST_ROWS = 60


def is_rule(ask, thing):
    if not isinstance(thing, tuple):
        return False
    if len(thing) == 1:
        return thing[0] == "double"
    if len(thing) != 2 or not is_whole(thing[1]):
        return False
    word, number = thing
    if word == "stay":
        return 0 <= number < len(plans_of(ask))
    if word == "guess":
        return 1 <= number <= _MOST_TIMES
    return word == "rows" and 1 <= number <= _MOST_ROWS


def visit_at(ask, rule, counts, k):
    if rule[0] == "stay":
        return (plans_of(ask)[rule[1]], None, None) if k == 0 else None
    plans = guessed(ask, counts)
    plan = plans[k % len(plans)]
    if rule[0] == "rows":
        return (plan, None, rule[1])
    doubled = 1 << (k // len(plans))
    if rule[0] == "guess":
        return (plan, guess(ask, plan, counts) * rule[1] * doubled, None)
    return (plan, doubled, None)
