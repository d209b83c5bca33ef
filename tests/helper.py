"""What several tests use: things of all kinds, refusals caught, asks and tables made by the dozen."""

import itertools

from plansamid.boxes import are_whole, left, met_by, slab_of
from plansamid.plainly import plainly
from plansamid.plans import plans_of


def deep(levels, inner=0):
    thing = inner
    for _ in range(levels):
        thing = (thing,)
    return thing


# Whatever may be handed in where a form is asked for, and is none of them.
THINGS = [
    None, True, False, 0, 1, -1, 7, 10 ** 99, -(10 ** 99), "", "a", "cell", "table", "lacking",
    "with", "\n", "x" * 30000, (), [], {}, (None,), [None], ((),), ([],), ({},), ("",), ("a",),
    ("cell",), ("number",), ("lacking",), ("table",), (True, False), (1, 2, 3), ["a", "b", "c"],
    {"a": 1}, {"a": {"b": [()]}}, {("a", "b"): 1}, ({}, {}, {}), ([], [], []), (None, None, None),
    ((), (), (), (), (), ()), [[], [], [], [], [], []], deep(20), deep(20, "a"), tuple(range(1900)),
    ["a"] * 1900, ("a", "b", "c", "d", "e", "f"), {0: (), 1: []}, (("cell", "a", "b"),),
]


def refusal(do, *args, **more):
    """The refusal that comes of it, or None."""
    try:
        do(*args, **more)
    except (ValueError, KeyError) as error:
        return error
    return None


def state(run):
    """All that a run tells."""
    return (run.looks(), run.steps(), run.rooms(), run.hand(), run.moment(), run.slabs(), run.visits(), run.now_plan(),
            run.starts(), run.told(), run.is_done(), len(run), repr(run), run.answer() if run.is_done() else None)


def to_the_end(run):
    """The run, each turn taken."""
    while not run.is_done():
        run.turn()
    return run


def places_key(places):
    """By which places stand in order: None ahead of all numbers."""
    return [(number is not None, number or 0) for number in places]


# A part is told here by plain Python, with a string for a refusal, to hold the program against it.
def worth_of(part, look):
    if part[0] == "cell":
        return look[part[1:]]
    if part[0] == "number":
        return part[1]
    first, second = worth_of(part[1], look), worth_of(part[2], look)
    if "fault" in (first, second):
        return "fault"
    if None in (first, second):
        return None
    if part[0] == "over":
        if second == 0:
            return "fault"
        quotient = abs(first) // abs(second)
        if (first < 0) == (second < 0):
            return quotient
        return -quotient - (1 if abs(first) % abs(second) else 0)
    return {"plus": first + second, "less": first - second, "times": first * second}[part[0]]


def sieve_of(sieve, look):
    worths = [worth_of(part, look) for part in sieve[1:]]
    if "fault" in worths:
        return "fault"
    if sieve[0] == "lacking":
        return worths == [None]
    if None in worths:
        return False
    return {"alike": worths[0] == worths[-1], "unlike": worths[0] != worths[-1],
            "below": worths[0] < worths[-1]}[sieve[0]]


class Plain:
    """An ask answered by trying every choice of a row, or of None, for every source."""

    def __init__(self, tables, ask, moment=None):
        self.ask = ask
        self.rows = []
        self.columns = []
        for _, _, table, _ in ask[0]:
            self.rows.append(dict(tables.rows(table, moment=moment)))
            self.columns.append(tables.columns(table, moment=moment))

    def fits(self, source, number, look):
        row = dict(zip(self.columns[source], self.rows[source][number]))
        return all(row[own] == look[(alias, other)] for own, alias, other in self.ask[0][source][3])

    def look(self, choice):
        look = {}
        for source, number in choice.items():
            for at, column in enumerate(self.columns[source]):
                worth = None if number is None else self.rows[source][number][at]
                look[(self.ask[0][source][1], column)] = worth
        return look

    def by_way(self, *ways):
        return [at for at, source in enumerate(self.ask[0]) if source[0] in ways]

    def combinations(self):
        withs = self.by_way("with")
        combined = []
        for numbers in itertools.product(*[self.rows[at] for at in withs]):
            look = self.look(dict(zip(withs, numbers)))
            if all(self.fits(at, number, look) for at, number in zip(withs, numbers)):
                combined.append(numbers)
        return sorted(combined)

    def founds(self):
        withs, others = self.by_way("with"), self.by_way("perhaps")
        found = []
        for numbers in self.combinations():
            look = self.look(dict(zip(withs, numbers)))
            if any(self.fits(at, number, look) for at in self.by_way("none") for number in self.rows[at]):
                continue
            fitting = [[number for number in self.rows[at] if self.fits(at, number, look)] or [None]
                       for at in others]
            found.extend(numbers + more for more in itertools.product(*fitting))
        return sorted(found, key=places_key)

    def parts(self):
        telling = self.ask[2]
        if telling[0] == "rows":
            return list(telling[1])
        return list(telling[1]) + [part for _, part in telling[2]]

    def judged(self, places):
        """("row", worths), ("fault", what), or ("dropped", k)."""
        look = self.look(dict(zip(self.by_way("with", "perhaps"), places)))
        for k, sieve in enumerate(self.ask[1]):
            if sieve_of(sieve, look) == "fault":
                return "fault", ("sieve", k)
            if not sieve_of(sieve, look):
                return "dropped", k
        worths = [worth_of(part, look) for part in self.parts()]
        if "fault" in worths:
            return "fault", ("tell", worths.index("fault"))
        return "row", tuple(worths)

    def found_rows(self):
        judged = [(places, self.judged(places)) for places in self.founds()]
        return [(places, what) for places, (word, what) in judged if word == "row"]

    def answer(self):
        judged = [(places, self.judged(places)) for places in self.founds()]
        faults = [(places, what) for places, (word, what) in judged if word == "fault"]
        return rows_told(self.ask, self.found_rows()), faults


def rows_told(ask, found):
    """The rows from what was found, in the order of places."""
    _, _, telling, order, first, struck = ask
    if telling[0] == "groups":
        rows = grouped(telling, found)
    elif struck:
        rows = []
        for worths in dict.fromkeys(worths for _, worths in found):
            rows.append((worths, [places for places, theirs in found if theirs == worths]))
    else:
        rows = [(worths, [places]) for places, worths in found]
    for number, way in reversed(order):
        there = [row for row in rows if row[0][number] is not None]
        lone = [row for row in rows if row[0][number] is None]
        there = sorted(there, key=lambda row: row[0][number] * (1 if way == "up" else -1))
        rows = lone + there if way == "up" else there + lone
    return rows[:first]


def grouped(telling, found):
    many = len(telling[1])
    rows = []
    for key in dict.fromkeys(worths[:many] for _, worths in found):
        group = [(places, worths) for places, worths in found if worths[:many] == key]
        told = []
        for at, (word, _) in enumerate(telling[2]):
            there = [worths[many + at] for _, worths in group if worths[many + at] is not None]
            if word in ("count", "sum"):
                told.append(len(there) if word == "count" else sum(there))
            else:
                pick = min if word == "least" else max
                told.append(pick(there) if there else None)
        rows.append((key + tuple(told), [places for places, _ in group]))
    return rows


# Asks and tables by a seeded chance: random is a random.Random with a told seed.
def some_tables(random, most_rows=5):
    """Tables a, b, c of columns x, y: small worths, some rows out, the deeds mixed."""
    deeds = [("table", name, ("x", "y")) for name in "abc"]
    rows = {"a": [], "b": [], "c": []}
    for _ in range(random.randrange(5 * most_rows)):
        name = random.choice("abc")
        if len(rows[name]) < most_rows:
            deeds.append(("row", name, (random.randrange(-1, 2), random.randrange(3))))
            rows[name].append(len(rows[name]))
        if random.randrange(6) == 0 and rows[name]:
            number = random.choice(rows[name])
            if ("out", name, number) not in deeds:
                deeds.append(("out", name, number))
    return deeds


def some_part(random, aliases, levels=3):
    if levels == 1 or random.randrange(2):
        if random.randrange(4) == 0:
            return ("number", random.randrange(-2, 4))
        return ("cell", random.choice(aliases), random.choice("xy"))
    word = random.choice(("plus", "less", "times", "over", "over"))
    return (word, some_part(random, aliases, levels - 1), some_part(random, aliases, levels - 1))


def some_sieve(random, aliases):
    word = random.choice(("alike", "unlike", "unlike", "below", "lacking"))
    parts = tuple(some_part(random, aliases) for _ in range(1 if word == "lacking" else 2))
    return (word,) + parts


def some_sources(random):
    ways = ["with"] * random.choice((1, 2, 2, 3)) + [random.choice(("perhaps", "none"))
                                                   for _ in range(random.choice((0, 1, 1, 2)))]
    sources = []
    for at, way in enumerate(ways):
        ahead = [alias for their_way, alias, _, _ in sources if their_way == "with"]
        many = random.choice((0, 1, 1, 2)) if ahead else 0
        pairs = tuple((random.choice("xy"), random.choice(ahead), random.choice("xy")) for _ in range(many))
        sources.append((way, "pqrst"[at], random.choice("abc"), pairs))
    return tuple(sources)


def some_ask(random):
    sources = some_sources(random)
    aliases = [alias for way, alias, _, _ in sources if way != "none"]
    sieves = tuple(some_sieve(random, aliases) for _ in range(random.choice((0, 0, 0, 1, 2, 3))))
    struck = False
    if random.randrange(2):
        parts = tuple(some_part(random, aliases, 2) for _ in range(random.randrange(1, 4)))
        telling, columns, struck = ("rows", parts), len(parts), random.choice((True, False))
    else:
        keys = tuple(some_part(random, aliases, 2) for _ in range(random.randrange(3)))
        sums = tuple((random.choice(("count", "sum", "least", "most")), some_part(random, aliases, 2))
                     for _ in range(random.randrange(1, 4)))
        telling, columns = ("groups", keys, sums), len(keys) + len(sums)
    numbers = random.sample(range(columns), random.randrange(min(columns, 2) + 1))
    order = tuple((number, random.choice(("up", "down"))) for number in numbers)
    return (sources, sieves, telling, order, random.choice((None, None, 1, 2, 5)), struck)


def some_rule(chance, ask):
    return chance.choice((("double",), ("double",), ("stay", chance.randrange(len(plans_of(ask)))),
                          ("guess", chance.randrange(1, 5)), ("rows", chance.randrange(1, 4))))


def some_deed(chance, tables):
    """A deed that the tables do, or refuse."""
    name = chance.choice("abc")
    return refusal(tables.do, chance.choice((("row", name, (chance.randrange(3), chance.randrange(3))),
                                             ("out", name, chance.randrange(6)))))


# A led row is told here choice by choice, each on its own way, to hold the program against it.
class Led:
    """What the next row of the lead looks at and finds; yet as in the document, kept the numbers of sources."""

    def __init__(self, plain, plan, yet, kept):
        self.plain = plain
        self.sources = plain.ask[0]
        self.order = plan[0]
        self.kept = kept
        self.looks = 0
        self.found = []
        self.yet = {}
        for at, (start, done) in enumerate(yet):
            numbers = sorted(plain.rows[at])
            self.yet[at] = (numbers[start:] + numbers[:start])[done:]
        self.go({}, list(self.order) + plain.by_way("none", "perhaps"))

    def worth(self, at, number, column):
        return self.plain.rows[at][number][self.plain.columns[at].index(column)]

    def go(self, choice, way):
        if not way:
            self.end(choice)
        elif self.sources[way[0]][0] == "with":
            self.go_with(choice, way[0], way[1:])
        else:
            self.go_other(choice, way[0], way[1:])

    def looked_at(self, at, walked, pairs, look):
        looked = walked
        if at in self.kept:
            own, alias, other = pairs[0]
            looked = [number for number in self.plain.rows[at] if self.worth(at, number, own) == look[(alias, other)]]
        self.looks += len(looked)
        return looked

    def go_with(self, choice, at, way):
        pairs, look = ties(self.sources, at, choice), self.plain.look(choice)
        walked = self.yet[at] if choice else self.yet[at][:1]
        for number in self.looked_at(at, walked, pairs, look):
            fits = all(self.worth(at, number, own) == look[(alias, other)] for own, alias, other in pairs)
            grown = {**choice, at: number}
            if number in self.yet[at] and fits and not self.early(grown):
                self.go(grown, way)

    def early(self, choice):
        look = self.plain.look(choice)
        for sieve in self.plain.ask[1]:
            state = sieve_of(sieve, look) if self.all_ahead(sieve, choice) else "waits"
            if state is False:
                return True
            if state == "fault" or (state == "waits" and divides(sieve)):
                return False
        return False

    def all_ahead(self, sieve, choice):
        return aliases_in(sieve) <= {self.sources[at][1] for at in choice}

    def go_other(self, choice, at, way):
        look = self.plain.look(choice)
        numbers = self.looked_at(at, self.plain.rows[at], self.sources[at][3], look)
        fitting = [number for number in numbers if self.plain.fits(at, number, look)]
        if self.sources[at][0] == "perhaps":
            for number in fitting or [None]:
                self.go({**choice, at: number}, way)
        elif not fitting:
            self.go(choice, way)

    def end(self, choice):
        places = tuple(choice[at] for at in sorted(choice))
        word, what = self.plain.judged(places)
        if word != "dropped":
            self.found.append((places, what, None) if word == "row" else (places, None, what))


def ties(sources, at, ahead):
    """The pairs between a source and those ahead, the first one its link."""
    own, aliases = sources[at][1], [sources[one][1] for one in ahead]
    turned = []
    for _, alias, _, pairs in sources:
        turned += [pair for pair in pairs if alias == own and pair[1] in aliases]
        turned += [(column2, alias, column) for column, other, column2 in pairs if other == own and alias in aliases]
    return turned


def divides(thing):
    return isinstance(thing, tuple) and (thing[:1] == ("over",) or any(divides(one) for one in thing))


def aliases_in(thing):
    """The aliases of all cells, of a sieve or a part."""
    if not isinstance(thing, tuple):
        return set()
    if thing[0] == "cell":
        return {thing[1]}
    return set().union(*[aliases_in(one) for one in thing])


def begun_again(plain, plan, rooms):
    """The looks that a visit takes at first, and the sources that it keeps."""
    order, way = plan
    looks, kept = 1, []
    for place, at in enumerate(list(order) + plain.by_way("none", "perhaps")):
        tied = ties(plain.ask[0], at, order[:place]) if at in order else plain.ask[0][at][3]
        if way == "kept" and tied and len(plain.rows[at]) <= rooms:
            looks, rooms = looks + len(plain.rows[at]), rooms - len(plain.rows[at])
            kept.append(at)
    return looks, tuple(kept)


class Again:
    """A run gone through once more, by counting alone: what each turn tells, and what it stands at."""

    def __init__(self, tables, ask, visit_at, *, moment=None, rooms=20, hand=8, starts=None):
        self.plain = Plain(tables, ask, moment)
        self.ask, self.visit_at, self.rooms, self.hand = ask, visit_at, rooms, hand
        withs = self.plain.by_way("with")
        self.rest = {at: len(self.plain.rows[at]) for at in withs}
        self.starts = starts or [0] * len(withs)
        self.visits = []
        self.open = self.done = False
        self.found = []
        self.in_hand, self.lots, self.steps = 0, [], 0
        self.is_sorted = ask[3] != () or ask[4] is not None or ask[2][0] == "groups"
        self.met()

    def met(self):
        if 0 in self.rest.values():
            self.open = False
            self.lay_out()
            self.done = not self.is_sorted
        return 0 in self.rest.values()

    def lay_out(self):
        if self.in_hand:
            self.lots.append(self.in_hand)
            self.steps += self.in_hand
            self.in_hand = 0

    def put(self):
        if self.in_hand >= self.hand:
            self.lay_out()
        self.in_hand += 1

    def turn(self):
        """A list of faults, and a list of rows: (worths, the places of which one is told)."""
        if 0 in self.rest.values():
            return [], self.turn_at_last()
        if not self.open:
            plan, budget, rows = self.visit_at(len(self.visits))
            looks, kept = begun_again(self.plain, plan, self.rooms)
            if budget is not None and looks > budget:
                looks, kept = budget, ()
            self.visits.append([plan, budget, looks, 0, kept, rows])
            self.open = looks != budget
            return [], []
        plan, budget, looks, many, kept, rows = self.visits[-1]
        lead = plan[0][0]
        yet = tuple((self.starts[at], len(self.plain.rows[at]) - rest) for at, rest in self.rest.items())
        row = Led(self.plain, plan, yet, kept)
        if budget is not None and looks + row.looks > budget:
            self.visits[-1][2] = budget
            self.open = False
            return [], []
        self.visits[-1][2:4] = [looks + row.looks, many + 1]
        self.open = looks + row.looks != budget and many + 1 != rows
        self.rest[lead] -= 1
        told = self.tell(row.found)
        self.met()
        return told

    def tell(self, found):
        faults = [(what, places) for places, _, what in found if what is not None]
        fresh = [(worths, [places]) for places, worths, what in found if what is None]
        if not self.is_sorted and self.ask[5]:
            ahead = {worths for worths, _ in self.found}
            fresh = [(worths, [places for theirs, (places,) in fresh if theirs == worths])
                     for worths in dict.fromkeys(worths for worths, _ in fresh) if worths not in ahead]
        for places, worths, what in found:
            if what is None:
                self.found.append((worths, places))
                if self.ask[2][0] == "rows" and self.is_sorted:
                    self.put()
        return faults, [] if self.is_sorted else fresh

    def turn_at_last(self):
        if len(self.lots) > 1:
            many = max(self.hand, 2)
            self.lots = self.lots[many:] + [sum(self.lots[:many])]
            self.steps += self.lots[-1]
            return []
        self.done = True
        return [(worths, founds[:1]) for worths, founds in self.plain.answer()[0]]

    def lend(self, many):
        self.rooms += many

    def call_back(self, many):
        if many > self.rooms:
            return False
        self.rooms -= many
        while self.open and sum(len(self.plain.rows[at]) for at in self.visits[-1][4]) > self.rooms:
            self.visits[-1][4] = self.visits[-1][4][:-1]
        return True

    def call_back_hand(self, many):
        if self.hand - many < 1:
            return False
        self.hand -= many
        if self.in_hand > self.hand:
            self.lay_out()
        return True

    def slabs(self):
        return [(visit[0][0][0], visit[3]) for visit in self.visits if visit[3]]


class RunChecks:
    """What is promised of each run that is done, for a TestCase."""

    def check_end(self, run, tables, moment):
        """What all turns told is the plain answer, whatever was done to the run's tables since."""
        ask = run.ask()
        rows, faults = plainly(tables, ask, moment=moment)
        self.assertEqual(run.answer(), (rows, faults))
        told = run.told()
        self.assertEqual(sorted(one for one in told if one[0] == "fault"),
                         sorted(("fault", what, places) for places, what in faults))
        mine = [one[1:] for one in told if one[0] == "row"]
        self.assertEqual(len(run), len(rows))
        firsts = [(worths, founds[0]) for worths, founds in rows]
        if ask[3] != () or ask[4] is not None or ask[2][0] == "groups":
            self.assertEqual(mine, firsts)
        elif ask[5]:
            founds_of = dict(rows)
            self.assertEqual(len(set(worths for worths, _ in mine)), len(mine))
            self.assertTrue(all(places in founds_of[worths] for worths, places in mine))
        else:
            self.assertEqual(sorted(mine, key=lambda one: places_key(one[1])), firsts)

    def check_slabs(self, run, tables, moment):
        """Each combination is met in just one slab, and all are."""
        sizes = [len(tables.rows(table, moment=moment)) for way, _, table, _ in run.ask()[0] if way == "with"]
        slabs = run.slabs()
        self.assertIs(are_whole(sizes, slabs), True)
        choices = 1
        for size in sizes:
            choices *= size
        self.assertEqual(sum(met_by(sizes, slabs)), choices)
        if choices:
            self.assertIn(0, left(sizes, slabs))
            self.assertEqual(slab_of(slabs, tuple(size - 1 for size in sizes)), len(slabs) - 1)
