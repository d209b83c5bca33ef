"""Piles, which sort rows in a small hand, lot by lot."""

from plansamid.errors import Done, NoRoom, NotDone


class Pile:
    """Rows in a hand and in sorted lots, which are merged until there is one or none."""

    def __init__(self, hand):
        self._most = hand
        self._rows = []
        self._lots = []
        self._steps = 0
        self._ended = False

    def put(self, row):
        if self._ended:
            raise Done()
        if len(self._rows) >= self._most:
            self._empty_hand()
        self._rows.append(row)

    def _empty_hand(self):
        """The hand's rows are a lot behind the others; of an empty hand there is none."""
        if len(self._rows) > 0:
            self._add_lot(self._rows)
            self._rows = []

    def _add_lot(self, rows):
        self._lots.append(sorted(rows))
        self._steps += len(rows)

    def lend(self, n):
        self._most += n

    def call_back(self, n):
        if self._most - n < 1:
            raise NoRoom()
        self._most -= n
        if len(self._rows) > self._most:
            self._empty_hand()

    def end(self):
        if self._ended:
            raise Done()
        self._empty_hand()
        self._ended = True

    def merge(self):
        if not self._ended:
            raise NotDone()
        if len(self._lots) < 2:
            raise Done()
        many = max(2, self._most)
        merged = [row for lot in self._lots[:many] for row in lot]
        self._lots = self._lots[many:]
        self._add_lot(merged)

    def lots(self):
        return len(self._lots)

    def steps(self):
        return self._steps

    def hand(self):
        return self._most

    def state(self):
        """How the pile stands, of plain kinds."""
        lots = tuple([tuple(lot) for lot in self._lots])
        return (self._most, tuple(self._rows), lots, self._steps, self._ended)

    def go_on(self, state):
        """Stand as another pile stood."""
        most, rows, lots, steps, ended = state
        self._most = most
        self._rows = list(rows)
        self._lots = [list(lot) for lot in lots]
        self._steps = steps
        self._ended = ended

    def told(self):
        if not self._ended or len(self._lots) > 1:
            raise NotDone()
        return [row for lot in self._lots for row in lot]
