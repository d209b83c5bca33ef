"""Visits: what one takes at first, and one as far as it is."""

from plansamid.plans import keeps_of


def begun(tables, ask, plan, *, moment=None, rooms=20):
    looks = 1
    rest = rooms
    kept = []
    for number in keeps_of(ask, plan):
        rows = len(tables.rows(ask[0][number][2], moment=moment))
        if rows <= rest:
            looks += rows
            rest -= rows
            kept.append(number)
    return (looks, tuple(kept))


class Visit:
    """A plan's visit as far as it is: what it took, how many rows it led, and which sources it keeps."""

    def __init__(self, plan, budget, most, looks, kept):
        self.plan = plan
        self.budget = budget
        # How many rows it may lead, or None.
        self.most = most
        self.many = 0
        # Never more than the budget is taken, and then nothing is kept.
        is_spent = budget is not None and looks > budget
        self.taken = budget if is_spent else looks
        self.kept = () if is_spent else kept

    def rest(self):
        """What is left of the budget, or None without one."""
        return None if self.budget is None else self.budget - self.taken

    def lead(self, looks):
        self.taken += looks
        self.many += 1

    def spend(self):
        """Take what is left of the budget."""
        self.taken = self.budget

    def is_over(self):
        return self.rest() == 0 or self.many == self.most

    def state(self):
        """All that it is made with again, and behind it how many rows it led."""
        return (self.plan, self.budget, self.most, self.taken, self.kept, self.many)

    def told(self):
        return (self.plan, self.budget, self.taken, self.many)
