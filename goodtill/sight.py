"""What a node has seen, what others can have seen of it, and the ways to and from the node's newest event."""

from goodtill.edges import bounds_of
from goodtill.errors import Refused
from goodtill.holding import gives_at, has_give
from goodtill.record import has_bit, record_of
from goodtill.views import last_left, line_of, view_of
from goodtill.webs import ways_from, ways_to


class RowWays:
    """The ways of a view, reckoned when one of them is first asked for."""

    def __init__(self, roster, view, newest, common, left):
        self._roster = roster
        self._view = view
        self._newest = newest
        self._common = common
        self._left = left
        self._onward = None
        self._inward = None
        self._leaving = None

    def way_on(self, x):
        """The longest way of the view from the node's newest event to another one."""
        if self._onward is None:
            self._onward = self._table(self._view, ways_from(self._roster, self._view, self._newest))
        return self._onward[x]

    def way_in(self, x):
        """The longest way of the view from an event to the node's newest one."""
        if self._inward is None:
            self._inward = self._table(self._view, ways_to(self._roster, self._view, self._newest))
        return self._inward[x]

    def way_left(self, x):
        """The longest way of the common view from an event to the last that left the node."""
        if self._leaving is None:
            self._leaving = self._table(self._common, ways_to(self._roster, self._common, self._left))
        return self._leaving[x]

    def _table(self, events, ways):
        """The lengths under the ids of the events."""
        return {event[0]: far for event, far in zip(events, ways)}


class Sight:
    """What a node has seen: the record of its view, and as a past what of it others can have seen."""

    def __init__(self, roster, node, record, common, left, ways):
        self.roster = roster
        self.node = node
        self.record = record
        self.whole = record.everything()
        self.common = common
        self.left = left
        self.ways = ways

    def bounds(self, node):
        """How short and how long a tick of a node's clock can be, as fractions."""
        a, b = bounds_of(self.roster, node)
        return (a, 1), (b, 1)

    def newest_by(self, node):
        """The newest event of a node's line, which has one here."""
        return self.record.event(self.record.lines[node][-1])

    def reading(self):
        """What the node's clock shows."""
        return self.newest_by(self.node)[1]

    def need_page(self, term):
        """Raises Refused if a page is not there."""
        if not self.record.has_page(term, self.whole):
            raise Refused(term)

    def need_give(self, give):
        """Raises Refused if a giving is not there."""
        if not has_give(self.record, give, self.whole):
            raise Refused(give)

    def promises_on(self, term, label):
        """The ids of the promises on a place of a page, which is there, ascending."""
        return gives_at(self.record, term, label)

    def keeps(self, term):
        """Whether the node keeps a page, which is there."""
        return self.record.keeper_row(term, self.whole)[1] == self.node

    def is_sole(self, term):
        """Whether nobody else can know of a keeper of a page, which is there, but of the node."""
        row, keeper = self.record.keeper_row(term, self.whole)
        return keeper == self.node or (row != () and not self.is_common(row))

    def is_common(self, event_id):
        """Whether others can have seen an event of the view."""
        return has_bit(self.common, self.record.places[event_id])


def common_past(record, node, left):
    """What others can have seen of a node's view, as a past; left is the last that left the node."""
    common = 0 if left is None else record.pasts[record.places[left]]
    for event, past in zip(record.events, record.pasts):
        if event[0][0] != node:
            common = common | past
    return common


def sight_of(roster, events, node):
    """The sight of a node that has an event in a row."""
    view = view_of(events, node)
    if view == ():
        raise Refused(node)
    record = record_of(view)
    left = last_left(line_of(view, node))
    common = common_past(record, node, left)
    ways = RowWays(roster, view, record.lines[node][-1], tuple(record.events_of(common)), left)
    return Sight(roster, node, record, common, left, ways)


def timeless_sight(events, node):
    """The sight of a node of which no ways are asked."""
    return sight_of((), events, node)
