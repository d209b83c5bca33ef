"""A desk, which keeps a house: rows of words are said to it, and it answers each with a text."""

from plansamid.errors import Done, NoLine, NoText
from plansamid.house import House
from plansamid.reader import number_in, read_ask
from plansamid.standtexts import read_stand, show_stand
from plansamid.worths import is_name

_OK = "ok"
_NOTHING = "none"
_BETWEEN_LINES = "; "


def _lines_of(text):
    return text.replace(_BETWEEN_LINES, "\n") + "\n"


def _make_table(house, name, columns):
    house.do(("table", name, columns))
    return _OK


def _put_row(house, name, worths):
    return str(house.do(("row", name, worths)))


def _take_out(house, name, number):
    house.do(("out", name, number))
    return _OK


def _begin(house, name, text):
    house.begin(name, read_ask(_lines_of(text)))
    return _OK


def _begin_along(house, name, text):
    house.begin(name, read_ask(_lines_of(text)), along=True)
    return _OK


def _turn(house, name, _):
    return str(len(house.turn(name)))


def _go(house, name, _):
    told = 0
    try:
        while True:
            told += len(house.turn(name))
    except Done:
        return str(told)


def _share(house, table, _):
    return str(len(house.share(table)))


def _told(house, name, word):
    """What the run told so far of the rows or of the faults."""
    return [one for one in house.run(name).told() if one[0] == word]


def _show_rows(house, name, _):
    rows = [" ".join(["-" if worth is None else str(worth) for worth in worths])
            for word, worths, places in _told(house, name, "row")]
    return "; ".join(rows) or _NOTHING


def _count_faults(house, name, _):
    return str(len(_told(house, name, "fault")))


def _lend(house, name, n):
    house.lend(name, n)
    return _OK


def _call_back(house, name, n):
    house.call_back(name, n)
    return _OK


def _count_looks(house, name, _):
    return str(house.run(name).looks())


def _show_slabs(house, name, _):
    return " ".join([f"{source}:{many}" for source, many in house.run(name).slabs()]) or _NOTHING


def _stop(house, name, _):
    return show_stand(house.stop(name))[:-1].replace("\n", _BETWEEN_LINES)


def _take_up(house, name, text):
    try:
        stand = read_stand(_lines_of(text))
    except NoText:
        # No stand: the house tells what goes ahead of that.
        stand = None
    house.take_up(name, stand)
    return _OK


def _drop(house, name, _):
    house.let_go(name)
    return _OK


_ANSWERS = {
    "table": _make_table, "row": _put_row, "out": _take_out, "ask": _begin, "along": _begin_along, "turn": _turn,
    "go": _go, "share": _share, "rows": _show_rows, "faults": _count_faults, "lend": _lend, "call": _call_back,
    "looks": _count_looks, "slabs": _show_slabs, "stop": _stop, "take": _take_up, "drop": _drop,
}
# What stands behind the name in those rows in which something does.
_BEHIND = {
    "table": "columns", "row": "worths", "out": "count", "ask": "text", "along": "text", "lend": "count",
    "call": "count", "take": "text",
}


def _thing_in(kind, words):
    """What the words behind the name are, in a list; in an empty one what isn't of this kind."""
    if kind is None:
        return [None] if words == [] else []
    if words == []:
        return []
    if kind == "text":
        return [" ".join(words)]
    if kind == "columns":
        return [tuple(words)] if all([is_name(word) for word in words]) else []
    numbers = [number_in(word) for word in words]
    if None in numbers:
        return []
    if kind == "worths":
        return [tuple(numbers)]
    return numbers if len(numbers) == 1 and numbers[0] >= 0 else []


class Desk:
    """A house by rows of words."""

    def __init__(self):
        self._house = House()

    def say(self, row):
        if not isinstance(row, str) or "\n" in row:
            raise NoLine()
        words = row.split(" ")
        if words == ["names"]:
            return " ".join(self._house.names()) or _NOTHING
        if len(words) < 2 or words[0] not in _ANSWERS or not is_name(words[1]):
            raise NoLine()
        things = _thing_in(_BEHIND.get(words[0]), words[2:])
        if things == []:
            raise NoLine()
        answer = _ANSWERS[words[0]]
        return answer(self._house, words[1], things[0])
