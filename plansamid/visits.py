"""Visits: what one takes at first, and one as far as it is."""

from plansamid.plans import keeps_of


def begun(tables, ask, plan, *, moment=None, rooms=20):
    looks = 1
    rest = rooms
    kept = []
    for number in keeps_of(ask, plan):
        rows = len(tables.rows(ask[0][number][2], moment=moment))
        if rows <= rest:
            looks += rows
            rest -= rows
            kept.append(number)
    return (looks, tuple(kept))


class Visit:
    """A plan's visit as far as it is: what it took, how many rows it led, and which sources it keeps."""

    def __init__(self, plan, budget, most):
        self.plan = plan
        self.budget = budget
        # How many rows it may lead, or None.
        self.most = most
        self.taken = 0
        self.many = 0
        self.kept = ()

    def rest(self):
        """What is left of the budget, or None without one."""
        return None if self.budget is None else self.budget - self.taken

    def begin(self, looks, kept):
        if self.budget is not None and looks > self.budget:
            self.spend()
        else:
            self.taken = looks
            self.kept = kept

    def lead(self, looks):
        self.taken += looks
        self.many += 1

    def spend(self):
        """Take what is left of the budget."""
        self.taken = self.budget

    def is_over(self):
        return self.rest() == 0 or self.many == self.most

    def told(self):
        return (self.plan, self.budget, self.taken, self.many)
