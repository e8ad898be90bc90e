"""A slow second reading of points 86 and 87, word by word, for comparison."""

from fractions import Fraction

from goodtill.labels import is_inside
from tests.slow_rights import Eye
from tests.slow_webs import bounds, number, pair


class SlowField:
    """A field in Python's own fractions; deeds that cannot be done are told by False."""

    def __init__(self, roster, length):
        self.roster, self.length = roster, number(length)
        self.now = Fraction(0)
        self.clock = [Fraction(0)] * 32
        self.pace = [Fraction(bounds(roster, node)[0]) for node in range(32)]
        self.entries = []
        self.letters = []
        self.wishes = []
        self.eyes = {}

    def run(self):
        return tuple(self.entries)

    def done(self):
        return tuple((wish["deed"], wish["wished"], wish["put"]) for wish in self.wishes)

    def own(self, node):
        return [event for event, _ in self.entries if event[0][0] == node]

    def eye(self, node):
        """What a node sees now; kept, as it is asked for often."""
        key = (node, len(self.entries), self.clock[node])
        if key not in self.eyes:
            self.eyes = {key: self.new_eye(node)}
        return self.eyes[key]

    def new_eye(self, node):
        row = tuple(event for event, _ in self.entries)
        if not self.own(node):
            row = (((node, 0, 0), pair(self.clock[node]), ("start", None)),)
        return Eye(self.roster, row, node)

    def write(self, node, *deed):
        number_of = len(self.own(node))
        self.entries.append((((node, 0, number_of), pair(self.clock[node]), deed), pair(self.now)))
        return (node, 0, number_of)

    def do(self, deed):
        kind = deed[0]
        if kind == "time":
            if number(deed[1]) < 0:
                return False
            self.now += number(deed[1])
            self.clock = [shown + number(deed[1]) / pace for shown, pace in zip(self.clock, self.pace)]
        elif kind == "clock":
            a, b = bounds(self.roster, deed[1])
            if not a <= number(deed[2]) <= b:
                return False
            self.pace[deed[1]] = number(deed[2])
        elif kind in ("bring", "lose", "double"):
            if deed[1] >= len(self.letters):
                return False
            send, to = self.letters[deed[1]]
            if kind != "double":
                del self.letters[deed[1]]
            if kind != "lose":
                self.act(to, deed, ("hear", send))
        else:
            return self.own_deed(deed)
        return True

    def own_deed(self, deed):
        kind, node = deed[:2]
        eye = self.eye(node)
        if kind == "ask":
            own = ("ask", deed[2], deed[3])
        elif kind == "forget":
            give = deed[2]
            if give not in eye.view.table or eye.view.table[give][2][0] != "give":
                return False
            if node not in eye.view.holders_of(give) or eye.view.has_sworn(give, node):
                return False
            own = ("swear", give)
        else:
            term = deed[2]
            if not eye.view.is_there(term) or eye.view.keeper_of(term)[1] != node:
                return False
            if kind == "hand":
                if deed[3] == node:
                    return False
                own = ("hand", term, deed[3])
            else:
                entry = deed[4]
                if entry is not None and entry[0] == "page":
                    if len(eye.view.way_to(term, "a")) - 1 > 4:
                        return False
                elif eye.view.content_of(term, deed[3])[1] == entry:
                    return False
                own = ("tick",)
        self.act(node, deed, own)
        return True

    def act(self, node, deed, own):
        if not self.own(node):
            self.write(node, "start", None)
        self.write(node, *own)
        if deed[0] == "wish":
            self.wishes.append({"deed": deed, "wished": pair(self.clock[node]), "put": None, "waits": True})
        brought = deed[0] in ("bring", "double")
        self.put_wishes(node)
        served = self.promise(node) if brought else []
        for ask in self.open_asks(node):
            if ask[0][0] == node and ask in self.open_asks(node):
                told = self.eye(node).may_tell(ask[2][1], ask[2][2])
                if told[0] == "told":
                    self.write(node, "tell", ask[2][1], ask[2][2], told[1])
        self.write_letters(node, deed, brought, served)

    def open_asks(self, node):
        row = self.eye(node).view
        asks = sorted((event for event in row.events if event[2][0] == "ask"), key=lambda one: one[0])
        return [ask for ask in asks if not any(
            one[2][:3] == ("tell",) + ask[2][1:] and one[0][0] == ask[0][0] and one[0][2] > ask[0][2] for one in row.events)]

    def put_wishes(self, node):
        while True:
            ripe = []
            eye = self.eye(node)
            for wish in self.wishes:
                _, who, term, label, entry = wish["deed"]
                if not wish["waits"] or who != node:
                    continue
                lost = eye.view.keeper_of(term)[1] != node
                plain = entry is None or entry[0] != "page"
                there = plain and eye.view.content_of(term, label)[1] == entry
                if lost or there:
                    ripe.append((wish, False))
                elif eye.may_put(term, label)[0] == "let":
                    ripe.append((wish, True))
            if not ripe:
                return
            wish, goes = ripe[0]
            wish["waits"] = False
            if goes:
                self.write(node, "put", *wish["deed"][2:])
                wish["put"] = pair(self.clock[node])

    def has_promised(self, row, house, place, ask):
        return any(
            event[0][0] == house and event[2][:3] == ("give",) + place and event[2][4] == ask[0][0] and ask[0] in row.pasts[event[0]]
            for event in row.events if event[2][0] == "give")

    def promise(self, node):
        served = []
        for ask in self.open_asks(node):
            asker = ask[0][0]
            if asker == node:
                continue
            for place in self.eye(node).view.walk(ask[2][1], ask[2][2])[1]:
                row = self.eye(node).view
                if row.keeper_of(place[0])[1] != node or self.has_promised(row, node, place, ask):
                    continue
                end = self.end_for(row, node, place)
                if end is not None:
                    self.write(node, "give", place[0], place[1], pair(end), asker)
                    served.append(ask[0])
        return served

    def end_for(self, row, node, place):
        term, label = place
        shown = self.clock[node]
        if row.content_of(term, label)[1] is not None:
            covered = lambda other: other == label
        else:
            low, high = row.page_gap(term, label)
            covered = lambda other: is_inside(low, other, high)
        wishes = [wish for wish in self.wishes if wish["waits"] and wish["deed"][1:3] == (node, term) and covered(wish["deed"][3])]
        if not wishes:
            return shown + self.length
        ends = []
        for wish in wishes:
            own = [number(row.give(give)[2][3]) for give in row.gives_on(term, wish["deed"][3]) if give[0] == node]
            if not own:
                return None
            ends.append(max(own))
        return min(ends) if min(ends) > shown else None

    def turn(self, node, ask):
        row = self.eye(node).view
        for place in row.walk(ask[2][1], ask[2][2])[1]:
            house = row.keeper_of(place[0])[1]
            if house not in (node, ask[0][0]) and not self.has_promised(row, house, place, ask):
                return house
        return None

    def write_letters(self, node, deed, brought, served):
        to = []
        if deed[0] == "hand":
            to.append(deed[3])
        if deed[0] == "forget" and deed[2][0] != node:
            to.append(deed[2][0])
        row = self.eye(node).view
        if brought:
            for ask in self.open_asks(node):
                if ask[0][0] == node:
                    continue
                pages = [term for term, _ in row.walk(ask[2][1], ask[2][2])[1]]
                handed = any(event[0][0] == node and event[2][0] == "hand" and event[2][1] in pages for event in row.events)
                if ask[0] in served or handed:
                    turn = self.turn(node, ask)
                    to.append(ask[0][0] if turn is None else turn)
        if brought or deed[0] == "ask":
            for ask in self.open_asks(node):
                if ask[0][0] == node and self.turn(node, ask) is not None:
                    to.append(self.turn(node, ask))
        for one in dict.fromkeys(to):
            self.letters.append((self.write(node, "send", one), one))
