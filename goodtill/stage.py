"""Runs that are made by hand: events laid as they are, and events that nodes do next."""

from goodtill.edges import bounds_of
from goodtill.rates import NOUGHT, minus, over, plus

# Which of a clock's bounds its ticks take behind the node's newest event.
FAST = 0
SLOW = 1


class Stage:
    """A run that grows; the clocks of all nodes go as fast, or as slow, as they can behind their newest events."""

    def __init__(self, roster, pace):
        self._roster = roster
        self._pace = pace
        self._rows = []
        self._newest = {}

    def lay(self, event, instant):
        """Puts an event with its instant behind the run, as it is."""
        self._rows.append((event, instant))
        self._newest[event[0][0]] = (event, instant)

    def do_at(self, node, deed, reading, instant):
        """A node's next event, at a reading; returns its id. Who has no event starts."""
        if node not in self._newest:
            self.lay(((node, 0, 0), reading, ("start", None)), instant)
        _, life, number = self._newest[node][0][0]
        event_id = (node, life, number + 1)
        self.lay((event_id, reading, deed), instant)
        return event_id

    def do(self, node, deed, instant):
        """A node's next event, at what its clock shows; returns its id."""
        return self.do_at(node, deed, self.shown(node, instant), instant)

    def letter(self, one, two, instant):
        """A letter from one node to another, heard at once."""
        self.do(two, ("hear", self.do(one, ("send", two), instant)), instant)

    def shown(self, node, instant):
        """What a node's clock shows at an instant, nought if it has no event."""
        if node not in self._newest:
            return NOUGHT
        event, stood = self._newest[node]
        return plus(event[1], over(minus(instant, stood), (bounds_of(self._roster, node)[self._pace], 1)))

    def run(self):
        """The run so far."""
        return tuple(self._rows)
