"""Texts of parts, sieves, asks and tables, read back."""

from plansamid.asks import is_ask
from plansamid.errors import NoText, PlanError, Unknown
from plansamid.sieves import is_sieve
from plansamid.tables import Tables
from plansamid.worths import is_name, is_part

_FIGURES = "0123456789"
_MOST_FIGURES = 30
_DEEPEST = 5
_PART_SIGNS = {" + ": "plus", " - ": "less", " * ": "times", " / ": "over"}
_SIEVE_SIGNS = {" = ": "alike", " # ": "unlike", " < ": "below"}
_LACKING = "lacking "
_WAYS = ("with", "perhaps", "none")
_TELLINGS = ("tell", "strike", "group")
# What stands for a telling, or for a sum, that isn't read yet.
_SOME_TELLING = ("rows", (("number", 0),))
_SOME_SUM = ("count", ("number", 0))


def read_part(text):
    part = _part_in(text) if isinstance(text, str) else None
    if part is None:
        raise NoText(0)
    return part


def read_sieve(text):
    sieve = _sieve_in(text) if isinstance(text, str) else None
    if not is_sieve(sieve):
        raise NoText(0)
    return sieve


def read_ask(text):
    lines, rest = lines_in(text)
    reading = AskReading()
    for number, line in enumerate(lines):
        if not reading.take(line):
            raise NoText(number)
    if rest != "" or not reading.is_whole():
        raise NoText(len(lines))
    return reading.ask()


def read_tables(text):
    lines, rest = lines_in(text)
    tables = Tables()
    for number, line in enumerate(lines):
        try:
            tables.do(_deed_in(line))
        except (PlanError, Unknown):
            raise NoText(number)
    if rest != "":
        raise NoText(len(lines))
    return tables


def lines_in(text):
    """The lines that have their line end, and what stands behind the last one."""
    if not isinstance(text, str):
        raise NoText(0)
    *lines, rest = text.split("\n")
    return (lines, rest)


def number_in(word):
    """The whole number that the word writes, or None: it has at most thirty figures, and no nought ahead."""
    figures = word[1:] if word.startswith("-") else word
    if not 1 <= len(figures) <= _MOST_FIGURES or any([sign not in _FIGURES for sign in figures]):
        return None
    number = int(word)
    return number if str(number) == word else None


def _part_in(text):
    part, end = _part_at(text, 0, 1)
    return part if end == len(text) and is_part(part) else None


def _part_at(text, at, deep):
    """The part that begins there, and where it ends; None where none does, or only one that is too deep."""
    if deep > _DEEPEST:
        return (None, at)
    if text[at:at + 1] != "(":
        return _leaf_at(text, at)
    first, sign_at = _part_at(text, at + 1, deep + 1)
    sign = text[sign_at:sign_at + 3]
    if first is None or sign not in _PART_SIGNS:
        return (None, sign_at)
    second, end = _part_at(text, sign_at + 3, deep + 1)
    if second is None or text[end:end + 1] != ")":
        return (None, end)
    return ((_PART_SIGNS[sign], first, second), end + 1)


def _leaf_at(text, at):
    end = at
    while end < len(text) and text[end] not in " )":
        end += 1
    return (_leaf_in(text[at:end]), end)


def _leaf_in(word):
    number = number_in(word)
    if number is not None:
        return ("number", number)
    alias, dot, column = word.partition(".")
    return ("cell", alias, column) if is_name(alias) and is_name(column) else None


def _sieve_in(text):
    """A sieve, or what is none."""
    if text.startswith(_LACKING):
        return ("lacking", _part_in(text[len(_LACKING):]))
    for sign in _SIEVE_SIGNS:
        first, found, second = text.partition(sign)
        if found:
            return (_SIEVE_SIGNS[sign], _part_in(first), _part_in(second))
    return None


def _parts_in(text):
    return tuple([_part_in(piece) for piece in text.split(", ")])


def _source_in(way, text):
    """A source, or None; whether its words are names is_ask tells."""
    words = text.split(" ")
    if len(words) < 2:
        return None
    pairs = []
    for at in range(2, len(words), 3):
        pairs.append(_pair_in(words[at:at + 3]))
    return (way, words[0], words[1], tuple(pairs))


def _pair_in(words):
    if len(words) != 3 or words[0] != "on":
        return None
    alias, dot, column = words[2].partition(".")
    return (words[1], alias, column) if dot else None


def _order_in(text):
    order = []
    for piece in text.split(", "):
        number, blank, way = piece.partition(" ")
        order.append((number_in(number), way))
    return tuple(order)


def _deed_in(line):
    """A deed, or what is none."""
    words = line.split(" ")
    if len(words) < 3:
        return None
    word, name = words[:2]
    if word == "table":
        return (word, name, tuple(words[2:]))
    numbers = tuple([number_in(one) for one in words[2:]])
    if word == "out" and len(numbers) == 1:
        return (word, name, numbers[0])
    return (word, name, numbers)


class AskReading:
    """An ask as far as its lines are read."""

    def __init__(self):
        self._sources = ()
        self._sieves = ()
        # None, ("rows", parts), or ("groups", keys, sums), with no sum at first.
        self._telling = None
        self._order = ()
        self._first = None
        self._struck = False

    def take(self, line):
        """Read one more line: whether it can stand behind those ahead of it."""
        word, blank, rest = line.partition(" ")
        if not self._may_stand(word):
            return False
        if word in _WAYS:
            self._sources = self._sources + (_source_in(word, rest),)
        elif word == "sieve":
            self._sieves = self._sieves + (_sieve_in(rest),)
        elif word in _TELLINGS:
            self._take_telling(word, rest)
        elif word == "sum":
            way, blank, part = rest.partition(" ")
            self._telling = self._telling[:2] + (self._telling[2] + ((way, _part_in(part)),),)
        elif word == "order":
            self._order = _order_in(rest)
        else:
            # 0 is no first, but None would be none told.
            self._first = number_in(rest) or 0
        return is_ask(self._filled_up())

    def _may_stand(self, word):
        """Whether a line of this first word may stand there, whatever is behind it."""
        if word in _WAYS:
            return self._telling is None and self._sieves == ()
        if word == "sieve" or word in _TELLINGS:
            return self._telling is None
        if self._first is not None:
            return False
        if word == "sum":
            return self._telling is not None and self._telling[0] == "groups" and self._order == ()
        if word == "order":
            return self.is_whole() and self._order == ()
        return word == "first" and self.is_whole()

    def _take_telling(self, word, rest):
        self._struck = word == "strike"
        if word == "group":
            self._telling = ("groups", () if rest == "-" else _parts_in(rest), ())
        else:
            self._telling = ("rows", _parts_in(rest))

    def _filled_up(self):
        """The ask, with something for what isn't read yet."""
        telling = self._telling
        if telling is None:
            telling = _SOME_TELLING
        elif not self.is_whole():
            telling = telling[:2] + ((_SOME_SUM,),)
        return (self._sources, self._sieves, telling, self._order, self._first, self._struck)

    def is_whole(self):
        """Whether nothing lacks: it is told what is told, of groups at least one sum."""
        return self._telling is not None and self._telling[-1] != ()

    def ask(self):
        return self._filled_up()
