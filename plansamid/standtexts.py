"""What a stopped run stands at, and a house, as texts, and read back."""

from plansamid.errors import NoText
from plansamid.house import House
from plansamid.reader import lines_in, read_tables
from plansamid.stands import stand_of
from plansamid.texts import show_tables

# One line each, none of them with the first word `run`, by which a house's runs are parted.
_LABELS = ("ask", "rule", "moment", "counts", "starts", "there", "state")
# With great letters, as no name and no word has them.
_WORDS = {"None": None, "True": True, "False": False}


def show_stand(stand):
    return "".join([f"{label} {_show(thing)}\n" for label, thing in zip(_LABELS, stand)])


def _show(thing):
    if isinstance(thing, tuple):
        return "(" + " ".join([_show(one) for one in thing]) + ")"
    return str(thing)


def read_stand(text):
    lines, rest = lines_in(text)
    things = []
    for number, line in enumerate(lines):
        label, blank, written = line.partition(" ")
        found = _things_in(written)
        if number >= len(_LABELS) or label != _LABELS[number] or found is None or len(found) != 1:
            raise NoText(number)
        things.append(found[0])
    if rest != "" or len(things) != len(_LABELS):
        raise NoText(len(lines))
    return tuple(things)


def _things_in(text):
    """All that the text writes, one behind the other; None where its brackets don't match."""
    open_ones = []
    things = []
    for word in text.replace("(", "( ").replace(")", " )").split():
        if word == "(":
            open_ones.append(things)
            things = []
        elif word != ")":
            things.append(_read_word(word))
        elif open_ones:
            closed = tuple(things)
            things = open_ones.pop()
            things.append(closed)
        else:
            return None
    return None if open_ones else things


def _read_word(word):
    if word in _WORDS:
        return _WORDS[word]
    try:
        return int(word)
    except ValueError:
        return word


def show_house(house):
    lines = [f"rooms {house.rooms()}\n", show_tables(house.tables())]
    walks = house.walks()
    lines.extend([f"walk {table} {walks[table]}\n" for table in sorted(walks)])
    lines.extend([f"run {name}\n" + show_stand(stand_of(house.run(name))) for name in house.names()])
    return "".join(lines)


def read_house(text):
    lines, rest = lines_in(text)
    if rest != "" or not lines:
        raise NoText(len(lines))
    house = House(rooms=_read_word(lines[0].partition(" ")[2]))
    deeds = []
    walks = []
    runs = []
    for line in lines[1:]:
        word, blank, behind = line.partition(" ")
        if word == "run":
            runs.append((behind, []))
        elif runs:
            name, stand_lines = runs[-1]
            stand_lines.append(line + "\n")
        elif word == "walk":
            walks.append(behind.split(" "))
        else:
            deeds.append(line + "\n")
    for deed in read_tables("".join(deeds)).deeds():
        house.do(deed)
    for table, number in walks:
        house.walk_to(table, int(number))
    for name, stand_lines in runs:
        house.take_up(name, read_stand("".join(stand_lines)))
    return house
