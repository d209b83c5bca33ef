"""The refusals of the whole program: under PlanError, but Unknown under KeyError alone."""


def copied(thing):
    """The same plain thing, with lists and dicts of its own."""
    if isinstance(thing, list):
        return [copied(one) for one in thing]
    if isinstance(thing, tuple):
        return tuple([copied(one) for one in thing])
    if isinstance(thing, dict):
        return {key: copied(thing[key]) for key in thing}
    return thing


class PlanError(ValueError):
    """What all refusals but Unknown stand under."""


class NoWorth(PlanError):
    """A part tells no worth: it divides by 0."""


class NoDeed(PlanError):
    """What should be done to tables is no deed."""


class Taken(PlanError):
    """A name is that of another one already."""

    def __init__(self, name):
        self.name = copied(name)


class TooMany(PlanError):
    """There are as many as there may be."""

    def __init__(self, most):
        self.most = copied(most)


class NoPlace(PlanError):
    """A row isn't there, or is out already."""

    def __init__(self, number):
        self.number = copied(number)


class NoAsk(PlanError):
    """Something is no ask, or asks for what the tables don't have."""

    def __init__(self, what):
        self.what = copied(what)


class Spent(PlanError):
    """A budget is too small for a row of the lead."""

    def __init__(self, budget):
        self.budget = copied(budget)


class NoRule(PlanError):
    """Something is no rule for an ask."""


class NoRoom(PlanError):
    """There are fewer rooms than are wanted."""


class Done(PlanError):
    """What is through can't go on."""


class NotDone(PlanError):
    """What isn't through yet can't tell its end."""


class NoName(PlanError):
    """Something is no name."""


class Busy(PlanError):
    """A run is amid its turn."""


class NoStand(PlanError):
    """Something is not what a stopped run stands at."""


class Unlike(PlanError):
    """Tables are not those with which a run was stopped."""


class NoPlaces(PlanError):
    """Something has not a number or None for each source."""


class NoText(PlanError):
    """A text can't be read: line is its first that can't stand there."""

    def __init__(self, line):
        self.line = copied(line)


class NoLine(PlanError):
    """Something is no row for a desk."""


class Unknown(KeyError):
    """There is nothing by this name."""

    def __init__(self, name):
        self.name = copied(name)
