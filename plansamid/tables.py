"""Tables, which keep rows under moments."""

from plansamid.errors import NoDeed, NoPlace, Taken, TooMany, Unknown
from plansamid.worths import is_name, is_number, is_whole

_MOST_TABLES = 6
_MOST_ROWS = 60
_MOST_COLUMNS = 4


def _is_deed(thing):
    """Whether it is a deed by its form, whatever tables there are."""
    if not isinstance(thing, tuple) or len(thing) != 3 or not is_name(thing[1]):
        return False
    if thing[0] == "table":
        return _are_columns(thing[2])
    if thing[0] == "row":
        return isinstance(thing[2], tuple) and all([is_number(worth) for worth in thing[2]])
    return thing[0] == "out" and is_whole(thing[2]) and thing[2] >= 0


def _are_columns(thing):
    if not isinstance(thing, tuple) or not 1 <= len(thing) <= _MOST_COLUMNS:
        return False
    return all([is_name(column) for column in thing]) and len(set(thing)) == len(thing)


def _line(deed):
    word, name, what = deed
    if word == "table":
        words = list(what)
    elif word == "row":
        words = [str(worth) for worth in what]
    else:
        words = [str(what)]
    return " ".join([word, name] + words) + "\n"


class Tables:
    """Tables by the deeds done to them; an elder moment stays as it was."""

    def __init__(self, deeds=()):
        self._deeds = []
        # By names: the columns, and the number of the deed that made the table.
        self._columns = {}
        self._made = {}
        # By names, a tuple for each row that ever was: its worths, the number of the deed
        # that put it, and of the one that took it out, or None.
        self._rows = {}
        for deed in deeds:
            self.do(deed)

    def do(self, deed):
        if not _is_deed(deed):
            raise NoDeed()
        word, name, what = deed
        number = None
        if word == "table":
            self._make(name, what)
        elif word == "row":
            number = self._put(name, what)
        else:
            self._take_out(name, what)
        self._deeds.append(deed)
        return number

    def _make(self, name, columns):
        if name in self._columns:
            raise Taken(name)
        if len(self._columns) == _MOST_TABLES:
            raise TooMany(_MOST_TABLES)
        self._columns[name] = columns
        self._made[name] = len(self._deeds)
        self._rows[name] = []

    def _put(self, name, worths):
        if name not in self._columns:
            raise Unknown(name)
        number = len(self._rows[name])
        if number == _MOST_ROWS:
            raise TooMany(_MOST_ROWS)
        if len(worths) != len(self._columns[name]):
            raise NoDeed()
        self._rows[name].append((worths, len(self._deeds), None))
        return number

    def _take_out(self, name, number):
        if name not in self._columns:
            raise Unknown(name)
        if number >= len(self._rows[name]):
            raise NoPlace(number)
        worths, put, out = self._rows[name][number]
        if out is not None:
            raise NoPlace(number)
        self._rows[name][number] = (worths, put, len(self._deeds))

    def moment(self):
        return len(self._deeds)

    def _moment_of(self, name, moment):
        """The moment, now where None is told; refused where the table isn't there then."""
        if moment is None:
            moment = len(self._deeds)
        if not is_name(name) or name not in self._made:
            raise Unknown(name)
        if moment > len(self._deeds) or self._made[name] >= moment:
            raise Unknown(name)
        return moment

    def rows(self, name, *, moment=None):
        then = self._moment_of(name, moment)
        return [(number, worths) for number, (worths, put, out) in enumerate(self._rows[name])
                if put < then and (out is None or out >= then)]

    def ever(self, name):
        """How many rows the table ever had, those out too."""
        return len(self._rows[name])

    def columns(self, name, *, moment=None):
        self._moment_of(name, moment)
        return self._columns[name]

    def names(self, *, moment=None):
        then = len(self._deeds) if moment is None else moment
        return sorted([name for name in self._made if self._made[name] < then])

    def deeds(self):
        return list(self._deeds)

    def twin(self):
        return Tables(self._deeds)

    def __len__(self):
        return len(self._columns)

    def __eq__(self, other):
        return isinstance(other, Tables) and self._deeds == other._deeds

    def __repr__(self):
        return f"Tables({len(self._columns)})"

    def __str__(self):
        return "".join([_line(deed) for deed in self._deeds])
