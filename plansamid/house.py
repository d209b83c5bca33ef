"""A house: tables of its own, and runs by names that share its rooms, its walks and what it keeps."""

from plansamid.errors import NoName, NoRoom, Taken, TooMany, Unknown
from plansamid.kept import Kept
from plansamid.runs import DOUBLE, Run, need_right
from plansamid.stands import stand_of, taken_up
from plansamid.tables import Tables
from plansamid.worths import is_name

_MOST_RUNS = 8


def _text_or_none(thing):
    return thing if isinstance(thing, str) else None


class House:
    """Tables, the runs over them, and how far each table's walk is."""

    def __init__(self, *, rooms=100):
        self._tables = Tables()
        self._rooms = rooms
        self._runs = {}
        # By tables: the number of the row that the walk read last.
        self._read_last = {}
        self._kept = Kept()
        self._reads_saved = 0
        self._looks_saved = 0

    def do(self, deed):
        return self._tables.do(deed)

    def tables(self):
        return self._tables

    def begin(self, name, ask, *, rule=DOUBLE, rooms=20, hand=8, along=False):
        self._need_free(name)
        # Ahead of the starts, for which the ask's tables must be there.
        need_right(self._tables, ask, rule)
        starts = self._starts_along(ask) if along else None
        self._let_in(name, Run(self._tables, ask, rule=rule, rooms=rooms, hand=hand, starts=starts))

    def _need_free(self, name):
        if not is_name(name):
            raise NoName()
        if name in self._runs:
            raise Taken(name)
        if len(self._runs) == _MOST_RUNS:
            raise TooMany(_MOST_RUNS)

    def _let_in(self, name, run):
        self._need_rooms(run.rooms())
        self._runs[name] = run

    def _need_rooms(self, many):
        if many + sum([run.rooms() for run in self._runs.values()]) > self._rooms:
            raise NoRoom()

    def _starts_along(self, ask):
        starts = []
        for way, alias, table, pairs in ask[0]:
            if way == "with":
                least = self.next_row(table)
                rows = self._tables.rows(table)
                starts.append(min([at for at, (number, worths) in enumerate(rows) if number >= least], default=0))
        return starts

    def _run_by(self, name):
        if not is_name(name) or name not in self._runs:
            raise Unknown(_text_or_none(name))
        return self._runs[name]

    def turn(self, name):
        run = self._run_by(name)
        visits = len(run.visits())
        told = run.turn()
        if len(run.visits()) > visits:
            self._share_kept(run)
        return told

    def _share_kept(self, run):
        """Save the looks at what the begun visit keeps and the house has; make what it hasn't."""
        for table, column, rows in run.keeps():
            if self._kept.want(table, column, run.moment(), self._tables.moment()):
                self._looks_saved += rows

    def share(self, table):
        number = self.next_row(table)
        if self._tables.ever(table) == 0:
            return []
        self._read_last[table] = number
        told = []
        for name in self.names():
            run = self._runs[name]
            # By an open visit: no visit is begun, so nothing is kept anew.
            if run.next_led() == (table, number):
                told.append((name, run.turn()))
        self._reads_saved += max(0, len(told) - 1)
        return told

    def next_row(self, table):
        if table not in self._tables.names():
            raise Unknown(_text_or_none(table))
        number = self._read_last.get(table, -1) + 1
        return number if number < self._tables.ever(table) else 0

    def walks(self):
        """By the tables of which a row was read: the number of the one read last."""
        return dict(self._read_last)

    def walk_to(self, table, number):
        """Stand behind this row, as if it was the one read last."""
        self._read_last[table] = number

    def run(self, name):
        # Over tables of its own, that what is done to them is not done to the house.
        return taken_up(self._tables.twin(), stand_of(self._run_by(name)))

    def names(self):
        return sorted(self._runs)

    def rooms(self):
        return self._rooms

    def saved(self):
        return (self._reads_saved, self._looks_saved)

    def lend(self, name, n):
        run = self._run_by(name)
        self._need_rooms(n)
        run.lend(n)

    def call_back(self, name, n):
        self._run_by(name).call_back(n)

    def let_go(self, name):
        self._run_by(name)
        del self._runs[name]

    def stop(self, name):
        stand = stand_of(self._run_by(name))
        self.let_go(name)
        return stand

    def take_up(self, name, stand):
        self._need_free(name)
        self._let_in(name, taken_up(self._tables, stand))

    def __len__(self):
        return len(self._runs)
