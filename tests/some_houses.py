"""Random runs of houses that put, promise, pass, swear and hand over, and of nodes that write to each other.

The runs are told by `World`, so they are runs, and what a node sees of them has a fit.
"""

from fractions import Fraction

from goodtill.coming import may_come
from goodtill.finders import may_tell
from goodtill.houses import may_put
from goodtill.record import Record
from goodtill.runs import World
from goodtill.views import view_of
from tests.slow_webs import bounds, number, pair
from tests.told import told

LABELS = ("a", "b", "c", "bb")
FIRST = ((), (), (("a", ("value", 1)),), (("b", ("name", ("a",))), ("c", ("value", 2))))


class Play:
    """A run that grows by deeds of its nodes, at random but often such as make sense."""

    def __init__(self, dice, roster, nodes, lives=0.0, losses=False, promise=6):
        self.dice, self.roster, self.nodes = dice, roster, nodes
        self.lives, self.losses, self.promise = lives, losses, promise
        self.world, self.record = World(roster), Record()
        self.now = Fraction(0)
        self.last = {}
        self.paces = {}
        self.letters = []

    def found_pages(self):
        """Some pages, one beneath another, each told to the house that is to keep it."""
        house, term = 0, ()
        for _ in range(self.dice.choice((0, 1, 1, 2, 3))):
            to = self.dice.randrange(self.nodes)
            if house not in self.last:
                self.single(house)
            self.single(house, ("put", term, self.dice.choice(LABELS), ("page", to, self.dice.choice(FIRST))))
            row = self.world.run()[-1][0]
            if row[2][0] != "put" or to == house:
                return
            self.letter(house, to)
            house, term = to, row[0]

    def grow(self, many, tries=20):
        self.found_pages()
        for _ in range(many * tries):
            if len(self.world.run()) >= many:
                break
            self.step()
        return self.world.run()

    def reading(self, node):
        if node not in self.last:
            return Fraction(self.dice.randint(0, 4))
        (_, reading, _), instant = self.last[node]
        a, b = bounds(self.roster, node)
        if self.dice.random() < 0.3:
            self.paces[node] = self.dice.choice((a, b, Fraction(a + b, 2)))
        return number(reading) + (self.now - number(instant)) / self.paces.get(node, a)

    def step(self):
        lot = self.dice.random()
        one = self.dice.randrange(self.nodes)
        two = self.dice.choice([other for other in range(self.nodes) if other != one])
        if lot < 0.08:
            self.letter(one, two)
        elif lot < 0.25:
            self.round(one, two)
        else:
            self.single(one)

    def letter(self, one, two):
        """A letter that is heard soon."""
        self.single(one, ("send", two))
        sent = self.world.run()[-1][0] if self.world.run() else None
        if sent is not None and sent[2] == ("send", two):
            self.single(two, ("hear", sent[0]))

    def round(self, one, two):
        """A letter, some promises and an answer."""
        self.letter(one, two)
        for _ in range(self.dice.choice((1, 1, 2))):
            self.single(two, self.house_deed(two, "give", one) if two in self.last else None)
        if self.dice.random() < 0.2:
            self.single(two)
        self.letter(two, one)

    def single(self, node, deed=None):
        if self.dice.random() < 0.2:
            self.now += self.dice.choice((Fraction(1, 2), 1, 1, 2))
        reading = pair(self.reading(node))
        if node not in self.last:
            event = ((node, 0, 0), reading, ("start", None))
        else:
            newest, _ = self.last[node]
            if deed is None and self.dice.random() < self.lives:
                event = self.later_life(node, newest, reading)
            else:
                (_, life, count), _, _ = newest
                event = ((node, life, count + 1), reading, deed or self.deed(node))
        if event[2] is not None:
            self.add(event)

    def later_life(self, node, newest, reading):
        own = [event[0] for event in self.record.events if event[0][0] == node]
        kept = self.dice.choice((newest[0], newest[0], self.dice.choice(own)))
        heavy = [event for event in self.record.events if event[0][0] == node and event[2][0] in ("hand", "put", "give")]
        if self.losses and heavy and self.dice.random() < 0.5:
            (_, life, number_of), _, _ = self.dice.choice(heavy)
            kept = (node, life, number_of - 1)
        return ((node, newest[0][1] + self.dice.choice((1, 1, 2)), 0), reading, ("start", kept))

    def add(self, event):
        if not self.losses and not may_come(self.record, event):
            return False
        try:
            self.world.add(event, pair(self.now))
        except ValueError:
            return False
        self.record.take(event)
        self.last[event[0][0]] = (event, pair(self.now))
        if event[2][0] == "send":
            self.letters.append((event[0], event[2][1]))
        return True

    def deed(self, node):
        dice = self.dice
        kind = dice.choice(("send", "hear", "hear", "put", "put", "put", "put", "give", "give", "give", "pass", "pass",
                            "swear", "swear", "hand", "tick"))
        other = dice.choice([one for one in range(self.nodes) if one != node])
        if kind == "hear":
            here = [send for send, to in self.letters if to == node]
            return ("hear", dice.choice(here[-4:])) if here else None
        if kind in ("put", "give", "hand"):
            return self.house_deed(node, kind, other)
        if kind in ("pass", "swear"):
            gives = [event[0] for event in self.record.events if event[2][0] == "give"]
            return (kind, dice.choice(gives)) + ((other,) if kind == "pass" else ()) if gives else None
        if kind == "tick":
            return dice.choice((("tick",), ("ask", ("a",), 0), ("tell", ("a",), 0, (("nothing",), ()))))
        return ("send", other)

    def house_deed(self, node, kind, other):
        dice = self.dice
        past = self.record.pasts[self.record.places[self.last[node][0][0]]]
        pages = [()] + [event[0] for event in self.record.events if event[0] in self.record.depths]
        kept = [term for term in pages if self.record.has_page(term, past)
                and self.record.keeper_row(term, past)[1] == node]
        if not kept:
            return ("send", other) if dice.random() < 0.1 else None
        term, label = dice.choice(kept), dice.choice(LABELS)
        if kind == "hand":
            return ("hand", term, other) if dice.random() < 0.5 else None
        if kind == "give":
            end = self.reading(node) + dice.choice((0, Fraction(1, 2), 1, 2, self.promise, self.promise))
            return ("give", term, label, pair(end), other)
        entry = dice.choice((None, ("value", dice.randint(0, 3)), ("name", dice.choice((("a",), ("a", "b"), ("bb", "c")))),
                             ("page", dice.randrange(self.nodes), dice.choice(FIRST)),
                             ("page", dice.randrange(self.nodes), dice.choice(FIRST))))
        return ("put", term, label, entry)


class TellingPlay(Play):
    """Nodes that often tell what they think."""

    def deed(self, node):
        if self.dice.random() < 0.25 and node in self.last:
            name = (self.dice.choice(("a", "b", "c")),) * self.dice.choice((1, 1, 2))
            view = view_of(tuple(self.record.events), node)
            told_now = told(may_tell, self.roster, view, node, name, 1)
            if told_now[0] == "gives" and told_now[1][0] == "told":
                return ("tell", name, 1, told_now[1][1])
        return Play.deed(self, node)


class RulePlay(TellingPlay):
    """Nodes that put only what is let and tell only what is told."""

    def add(self, event):
        event_id, reading, deed = event
        if deed[0] in ("put", "tell"):
            on = view_of(tuple(self.record.events), event_id[0]) + ((event_id, reading, ("tick",)),)
            if deed[0] == "put" and told(may_put, self.roster, on, event_id[0], deed[1], deed[2])[1][0] != "let":
                return False
            if deed[0] == "tell" and may_tell(self.roster, on, event_id[0], deed[1], deed[2]) != ("told", deed[3]):
                return False
        return Play.add(self, event)


def with_lives_moved(row, moves):
    """A row with the lives of some nodes greater by what is told, so that some start late with nothing ahead."""

    def moved(event_id):
        return (event_id[0], event_id[1] + moves.get(event_id[0], 0), event_id[2])

    def deed_moved(deed):
        if deed[0] in ("start", "hear", "swear", "pass", "put", "give", "hand"):
            return deed[:1] + (deed[1] and moved(deed[1]),) + deed[2:]
        if deed[0] == "tell" and deed[3][0][0] == "page" and deed[3][0][2]:
            return deed[:3] + ((deed[3][0][:2] + (moved(deed[3][0][2]),), deed[3][1]),)
        return deed

    return tuple((moved(event_id), reading, deed_moved(deed)) for event_id, reading, deed in row)


def some_clocks(dice, nodes):
    """Some bounds for so many nodes."""
    pairs = []
    for _ in range(nodes):
        a = dice.choice((1, 1, 1, 2, 3))
        pairs.append((a, a + dice.choice((0, 0, 1, 1, 3))))
    return tuple(pairs)


def some_sight(dice, many, nodes, lives=0.0, **more):
    """A roster and a row that has a fit by it, of at most so many events."""
    roster = some_clocks(dice, nodes)
    run = Play(dice, roster, nodes, lives, **more).grow(many)
    return roster, tuple(event for event, _ in run)


def some_late_sight(dice, many, nodes, lives=0.0):
    """Like some_sight; often some nodes have later lives alone."""
    roster, row = some_sight(dice, many, nodes, lives)
    if dice.random() < 0.5:
        return roster, row
    return roster, with_lives_moved(row, {node: dice.choice((0, 1, 2)) for node in range(nodes)})
