"""A node of a field at the present instant: what it has seen by now, and what it writes."""

from goodtill.sight import sight_of


class Post:
    """A node that does something now; its sight is that of its start alone as long as it has no event."""

    def __init__(self, roster, world, node, clock, now):
        self.node = node
        self.clock = clock
        self._roster = roster
        self._world = world
        self._now = now
        self._seen = world.view(node)
        self._sight = None

    def sight(self):
        """What the node has seen by now."""
        if self._sight is None:
            start = ((self.node, 0, 0), self.clock, ("start", None))
            self._sight = sight_of(self._roster, self._seen or (start,), self.node)
        return self._sight

    def begin(self):
        """Starts the node, if it has no event."""
        if self._seen == ():
            self._add(((self.node, 0, 0), self.clock, ("start", None)))

    def write(self, deed):
        """The node's next event; returns its id."""
        (_, life, number), _, _ = self.sight().newest_by(self.node)
        event_id = (self.node, life, number + 1)
        self._add((event_id, self.clock, deed))
        return event_id

    def _add(self, event):
        """Puts an event behind the world, at this instant."""
        self._world.add(event, self._now)
        self._seen = self._world.view(self.node)
        self._sight = None
