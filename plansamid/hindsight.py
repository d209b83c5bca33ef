"""In hindsight: what each plan alone would have looked at."""

from plansamid.errors import NotDone
from plansamid.plans import plans_of
from plansamid.runs import Run

_TIMES = 4


def cost(tables, ask, plan, *, moment=None, rooms=20, starts=None):
    rule = ("stay", plans_of(ask).index(plan))
    run = Run(tables, ask, rule=rule, moment=moment, rooms=rooms, starts=starts)
    while not run.is_done():
        run.turn()
    return run.looks()


def hindsight(run):
    costs = [cost(run.tables(), run.ask(), plan, moment=run.moment(), rooms=run.rooms(), starts=run.starts())
             for plan in plans_of(run.ask())]
    return (run.looks(), costs)


def share(run):
    if not run.is_done():
        raise NotDone()
    looks, costs = hindsight(run)
    return (looks, _TIMES * len(costs) * min(costs))
