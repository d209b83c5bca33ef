"""Runs: an ask gone through turn by turn, by the plans that a rule tells."""

from plansamid.asks import is_ask, is_sorted, need_ask
from plansamid.boxes import left, round_about
from plansamid.counts import counts_of
from plansamid.endings import by_places, places_key, ranks_of, rows_of
from plansamid.errors import Busy, Done, NoAsk, NoRoom, NoRule, NotDone, Spent, copied
from plansamid.leading import led
from plansamid.piles import Pile
from plansamid.plans import links_of
from plansamid.rules import is_rule, visit_at
from plansamid.visits import Visit, begun

DOUBLE = ("double",)


def need_right(tables, ask, rule, *, moment=None):
    """Refuse what no run is made of: no ask, or not right for the tables; then no rule for it."""
    if not is_ask(ask):
        raise NoAsk(None)
    need_ask(tables, ask, moment=moment)
    if not is_rule(ask, rule):
        raise NoRule()


class Run:
    """An ask at a moment, as far as it is gone through."""

    def __init__(self, tables, ask, *, rule=DOUBLE, moment=None, counts=None, rooms=20, hand=8, starts=None,
                 watcher=None):
        need_right(tables, ask, rule, moment=moment)
        self._tables = tables
        self._ask = ask
        self._rule = rule
        self._moment = tables.moment() if moment is None else moment
        self._counts = counts_of(tables, moment=self._moment) if counts is None else copied(counts)
        self._rooms = rooms
        # How many rows each source has, and each "with" source alone.
        self._rows = [len(tables.rows(source[2], moment=self._moment)) for source in ask[0]]
        self._sizes = [rows for rows, source in zip(self._rows, ask[0]) if source[0] == "with"]
        self._starts = tuple([0 for rows in self._sizes]) if starts is None else tuple(starts)
        self._watcher = watcher
        self._is_watched = False
        self._visits = []
        self._found = []
        self._faults = []
        self._told = []
        self._worths_told = {}
        self._pile = Pile(hand)
        self._is_through = False
        if self._is_met():
            self._end_meeting()

    def turn(self):
        self._need_idle()
        if self._is_through:
            raise Done()
        told = self._take_turn()
        self._told.extend(told)
        watcher = self._watcher
        if watcher is not None:
            self._is_watched = True
            try:
                watcher(list(told))
            finally:
                self._is_watched = False
        return told

    def _need_idle(self):
        if self._is_watched:
            raise Busy()

    def _take_turn(self):
        if self._is_met():
            return self._merge()
        visit = self._open_visit()
        if visit is None:
            self._begin_visit()
            return []
        told = self._lead(visit)
        if self._is_met():
            self._end_meeting()
        return told

    def _is_met(self):
        return 0 in self._left()

    def _left(self):
        return left(self._sizes, self.slabs())

    def _open_visit(self):
        if not self._visits or self._visits[-1].is_over() or self._is_met():
            return None
        return self._visits[-1]

    def _begin_visit(self):
        plan, budget, rows = visit_at(self._ask, self._rule, self._counts, len(self._visits))
        looks, kept = begun(self._tables, self._ask, plan, moment=self._moment, rooms=self._rooms)
        self._visits.append(Visit(plan, budget, rows, looks, kept))

    def _lead(self, visit):
        yet = [(start, size - rest) for start, size, rest in zip(self._starts, self._sizes, self._left())]
        try:
            looks, found = led(self._tables, self._ask, visit.plan, tuple(yet), moment=self._moment,
                               kept=visit.kept, budget=visit.rest())
        except Spent:
            visit.spend()
            return []
        visit.lead(looks)
        told = []
        for places, worths, what in found:
            told.extend(self._told_of(places, worths, what))
        return told

    def _told_of(self, places, worths, what):
        """What is told at once of something found, in a list."""
        if what is not None:
            self._faults.append((places, what))
            return [("fault", what, places)]
        self._found.append((places, worths))
        telling, order, first, struck = self._ask[2:]
        if is_sorted(self._ask):
            if telling[0] == "rows":
                # Behind the places nothing is compared: its number leads back to what was found.
                self._pile.put((ranks_of(order, worths), places_key(places), len(self._found) - 1))
            return []
        if struck and worths in self._worths_told:
            return []
        self._worths_told[worths] = True
        return [("row", worths, places)]

    def _end_meeting(self):
        if is_sorted(self._ask):
            self._pile.end()
        else:
            self._is_through = True

    def _merge(self):
        if self._pile.lots() > 1:
            self._pile.merge()
            return []
        self._is_through = True
        return self._rows_at_last()

    def _rows_at_last(self):
        if self._ask[2][0] == "groups":
            return [("row", worths, founds[0]) for worths, founds in rows_of(self._ask, self._found)]
        told = []
        for ranks, key, number in self._pile.told():
            places, worths = self._found[number]
            if not self._ask[5] or worths not in self._worths_told:
                told.append(("row", worths, places))
            self._worths_told[worths] = True
        # None cuts nothing off.
        return told[:self._ask[4]]

    def told(self):
        return list(self._told)

    def answer(self):
        if not self._is_through:
            raise NotDone()
        return (rows_of(self._ask, self._found), by_places(self._faults))

    def looks(self):
        return sum([visit.taken for visit in self._visits])

    def steps(self):
        return self._pile.steps()

    def rooms(self):
        return self._rooms

    def hand(self):
        return self._pile.hand()

    def moment(self):
        return self._moment

    def slabs(self):
        return [(visit.plan[0][0], visit.many) for visit in self._visits if visit.many > 0]

    def visits(self):
        return [visit.told() for visit in self._visits]

    def now_plan(self):
        visit = self._open_visit()
        return None if visit is None else visit.plan

    def next_led(self):
        """The row that the open visit would lead next: its table and its number; None where no visit is open."""
        visit = self._open_visit()
        if visit is None:
            return None
        lead = visit.plan[0][0]
        table = self._ask[0][lead][2]
        numbers = [number for number, worths in self._tables.rows(table, moment=self._moment)]
        done = self._sizes[lead] - self._left()[lead]
        return (table, round_about(numbers, self._starts[lead])[done])

    def keeps(self):
        """Of each source that the last visit keeps its table, its link's column, and how many rows it has."""
        visit = self._visits[-1]
        links = links_of(self._ask, visit.plan)
        return [(self._ask[0][number][2], links[number][0], self._rows[number]) for number in visit.kept]

    def starts(self):
        return self._starts

    def sizes(self):
        """How many rows each "with" source has."""
        return list(self._sizes)

    def counts(self):
        return copied(self._counts)

    def ask(self):
        return self._ask

    def rule(self):
        return self._rule

    def tables(self):
        return self._tables

    def lend(self, n):
        self._need_idle()
        self._rooms += n

    def call_back(self, n):
        self._need_idle()
        if n > self._rooms:
            raise NoRoom()
        self._rooms -= n
        visit = self._open_visit()
        if visit is not None:
            while sum([self._rows[number] for number in visit.kept]) > self._rooms:
                visit.kept = visit.kept[:-1]

    def lend_hand(self, n):
        self._need_idle()
        self._pile.lend(n)

    def call_back_hand(self, n):
        self._need_idle()
        self._pile.call_back(n)

    def state(self):
        """What turns and loans made of it so far, of plain kinds."""
        self._need_idle()
        visits = tuple([visit.state() for visit in self._visits])
        return (self._rooms, visits, tuple(self._found), tuple(self._told), self._pile.state(), self._is_through)

    def go_on(self, state):
        """Stand as another run, made alike, stood."""
        rooms, visits, found, told, pile, is_through = state
        self._rooms = rooms
        self._visits = []
        for plan, budget, most, taken, kept, many in visits:
            visit = Visit(plan, budget, most, taken, kept)
            visit.many = many
            self._visits.append(visit)
        self._found = list(found)
        self._told = list(told)
        self._faults = [(places, what) for word, what, places in told if word == "fault"]
        self._worths_told = {worths: True for word, worths, places in told if word == "row"}
        self._pile.go_on(pile)
        self._is_through = is_through

    def is_done(self):
        return self._is_through

    def __len__(self):
        return len([one for one in self._told if one[0] == "row"])

    def __repr__(self):
        return f"Run({len(self)} told)"
