"""A looker that runs no plan: whether something is the answer of an ask, and whether slabs are whole."""

from plansamid.alike import is_just
from plansamid.boxes import are_whole
from plansamid.plainly import plainly


def lets_answer(tables, ask, thing, *, moment=None):
    return is_just(thing, plainly(tables, ask, moment=moment))


def lets_slabs(run, thing):
    return are_whole(run.sizes(), thing)
