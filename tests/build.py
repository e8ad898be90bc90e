"""Rows of events and runs, told deed by deed."""


class Rows:
    """A row that grows: each event gets the next number of its node's newest life."""

    def __init__(self):
        self.row = []
        self.instants = []

    def event(self, node, *deed, at=None, life=None):
        """The next event of a node, which is not added."""
        own = [event for event in self.row if event[0][0] == node]
        if deed[0] == "start":
            lives = [event[0][1] for event in own]
            life = (max(lives) + 1 if lives else 0) if life is None else life
            number = 0
        else:
            life = max(event[0][1] for event in own) if life is None else life
            number = max(event[0][2] for event in own if event[0][1] == life) + 1
        if at is None:
            at = max((event for event in own if event[0] <= (node, life, number)), key=lambda one: one[0])[1] if own else 0
        return ((node, life, number), at if isinstance(at, tuple) else (at, 1), deed)

    def do(self, node, *deed, at=None, life=None, now=None):
        """Adds an event and returns its id."""
        event = self.event(node, *deed, at=at, life=life)
        self.row.append(event)
        self.instants.append((now, 1) if isinstance(now, int) else now or (self.instants[-1] if self.instants else (0, 1)))
        return event[0]

    def start(self, node, kept=None, **more):
        return self.do(node, "start", kept, **more)

    def put(self, node, term, label, entry, **more):
        return self.do(node, "put", term, label, entry, **more)

    def give(self, node, term, label, end, to, **more):
        return self.do(node, "give", term, label, (end, 1), to, **more)

    def letter(self, node, to, **more):
        """A letter that is sent and heard; the id of the hearing."""
        return self.do(to, "hear", self.do(node, "send", to, **more), **more)

    def events(self):
        return tuple(self.row)

    def run(self):
        return tuple(zip(self.row, self.instants))


def chain(deep, houses):
    """A run in which each page of a name of so many labels is put and, in turn, kept by one of some houses."""
    rows = Rows()
    term, house = (), 0
    rows.start(0)
    for at in range(deep - 1):
        to = houses[at % len(houses)]
        made = rows.put(house, term, "a", ("page", to, ()))
        if to != house:
            if not [event for event in rows.row if event[0][0] == to]:
                rows.start(to)
            rows.letter(house, to)
        term, house = made, to
    rows.put(house, term, "a", ("value", 7))
    return rows
