"""A led row: the next row of the lead meets all that is yet to be met of the others."""

from plansamid.boxes import round_about
from plansamid.early import dropped
from plansamid.errors import NoWorth, Spent
from plansamid.plainly import fitting, joined, judged, lone_row, rows_of_source
from plansamid.plans import keeps_of, links_of, pairs_between
from plansamid.sieves import holds, sieve_cells


def led(tables, ask, plan, yet, *, moment=None, kept=None, budget=None):
    if kept is None:
        kept = keeps_of(ask, plan)
    leading = Leading(tables, ask, plan, moment, kept, budget)
    found = leading.found(yet)
    return (leading.taken, found)


class Leading:
    """A row of the lead on its way from source to source, and the looks that it took."""

    def __init__(self, tables, ask, plan, moment, kept, budget):
        self._ask = ask
        self._order = plan[0]
        self._links = links_of(ask, plan)
        self._kept = kept
        self._budget = budget
        # By the numbers of the sources.
        self._rows = [rows_of_source(tables, source, moment) for source in ask[0]]
        self._lone = [lone_row(tables, source, moment) for source in ask[0]]
        self.taken = 0

    def found(self, yet):
        going = self._combined(yet)
        places_of = list(self._order)
        for number in range(len(self._order), len(self._ask[0])):
            if self._ask[0][number][0] == "none":
                going = [one for one in going if not self._fitting_others(number, one)]
            else:
                going = [joined(one, self._ask[0][number], row) for one in going
                         for row in self._fitting_others(number, one) or [self._lone[number]]]
                places_of.append(number)
        found = []
        for numbers, look in going:
            worths, what = judged(self._ask, look)
            if worths is not None or what is not None:
                found.append((_in_places(places_of, numbers), worths, what))
        return found

    def _combined(self, yet):
        """The combinations that the row finds, by the plan's order, each with its look."""
        going = [((), {}, {})]
        for place, number in enumerate(self._order):
            start, done = yet[number]
            met_yet = round_about(self._rows[number], start)[done:]
            going = self._gone_on(going, place, met_yet if place > 0 else met_yet[:1])
        return [(numbers, look) for numbers, look, seen in going]

    def _gone_on(self, going, place, met_yet):
        """What goes on behind the source at this place of the order, of which so many rows are yet to be met."""
        number = self._order[place]
        source = self._ask[0][number]
        pairs = pairs_between(self._ask[0], number, self._order[:place])
        due = self._due_behind(place)
        there = {row_number: True for row_number, row in met_yet}
        gone_on = []
        for numbers, look, seen in going:
            for row in fitting(self._looked_at(number, met_yet, look), pairs, look):
                if row[0] in there:
                    grown, grown_look = joined((numbers, look), source, row)
                    grown_seen = self._seen_with(seen, due, grown_look)
                    if not dropped(self._ask[1], grown_seen):
                        gone_on.append((grown, grown_look, grown_seen))
        return gone_on

    def _looked_at(self, number, walked, look):
        """The rows of the source that are looked at: those of the link where it is kept, else all walked ones."""
        rows = walked
        if number in self._kept and number in self._links:
            rows = fitting(self._rows[number], [self._links[number]], look)
        self._take(len(rows))
        return rows

    def _take(self, many):
        self.taken += many
        if self._budget is not None and self.taken > self._budget:
            raise Spent(self._budget)

    def _fitting_others(self, number, one):
        """The rows of a source that is looked at behind the order, as far as they fit."""
        numbers, look = one
        return fitting(self._looked_at(number, self._rows[number], look), self._ask[0][number][3], look)

    def _due_behind(self, place):
        """The numbers of the sieves that have their last alias at this place of the order."""
        places = {self._ask[0][number][1]: at for at, number in enumerate(self._order)}
        due = []
        for number, sieve in enumerate(self._ask[1]):
            # Those with an alias behind the order wait for the end.
            ahead = [places.get(alias, len(self._order)) for alias, column in sieve_cells(sieve)]
            if max(ahead, default=0) == place:
                due.append(number)
        return due

    def _seen_with(self, seen, due, look):
        grown = dict(seen)
        for number in due:
            try:
                grown[number] = holds(self._ask[1][number], look)
            except NoWorth:
                grown[number] = None
        return grown


def _in_places(places_of, numbers):
    """The rows' numbers by the numbers of their sources."""
    return tuple([number for place, number in sorted(list(zip(places_of, numbers)))])
