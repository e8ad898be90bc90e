"""Tables: what a node keeps of the events that it is told, as long as nobody begins a second life."""

from goodtill.errors import Refused
from goodtill.finders import ticks_to_tell
from goodtill.forms import kind_of, steps_back
from goodtill.houses import life_of, need_house, ticks_to_put
from goodtill.live import LiveWeb
from goodtill.promises import is_over, is_standing
from goodtill.record import Record
from goodtill.sight import Sight


class LiveWays:
    """The ways to and from a node's newest event, taken from webs of live events."""

    def __init__(self, web, common_web, newest, left):
        self._web = web
        self._common_web = common_web
        self._newest = newest
        self._left = left

    def way_on(self, x):
        """The longest way from the node's newest event to a live one."""
        return self._web.way(self._newest, x)

    def way_in(self, x):
        """The longest way from a live event to the node's newest one."""
        return self._web.way(x, self._newest)

    def way_left(self, x):
        """The longest way of the common events from a live one to the node's last send."""
        return self._common_web.way(x, self._left)


class Table:
    """What a node is told, event by event, with the ways between the live events, and its rights by them."""

    def __init__(self, roster, node):
        self._roster = roster
        self._node = node
        self._told = Record()
        self._web = LiveWeb(roster)
        self._common_web = LiveWeb(roster)
        self._common = 0
        self._left = None
        self._unsent = []

    def tell(self, event):
        """Takes up an event, if it may come next."""
        if not self._may_come(event) or self._web.closes_ring(event):
            raise Refused(event[0])
        self._told.take(event)
        self._web.take(event)
        if event[0][0] != self._node:
            self._make_common([event])
        else:
            self._unsent.append(event)
            if kind_of(event) == "send":
                self._make_common(self._unsent)
                self._unsent = []
                self._left = event[0]

    def live(self):
        """The ids of the events that are live among all told ones, ascending."""
        return self._web.ids()

    def live_common(self):
        """The ids of the events that are live among the common ones, ascending."""
        return self._common_web.ids()

    def way(self, x, y):
        """The longest way between two live events over all told events, None if there is no way."""
        return self._web.way(x, y)

    def way_common(self, x, y):
        """The longest way between two live common events over the common events, None if there is no way."""
        return self._common_web.way(x, y)

    def stands(self, give):
        """Whether a promise surely is not at its end yet."""
        sight = self._sight()
        sight.need_give(give)
        return is_standing(sight, give)

    def past(self, give):
        """Whether a promise surely is at its end, or was."""
        sight = self._sight()
        sight.need_give(give)
        return is_over(sight, give)

    def alive(self, give):
        """Why others may still go by a promise, None if they may not."""
        sight = self._sight()
        sight.need_give(give)
        return life_of(sight, give)

    def wait(self, term, label):
        """How many ticks the node waits at the least to change a place of a page that it keeps."""
        sight = self._sight()
        need_house(sight, term, label)
        return ticks_to_put(sight, term, label)

    def good(self, name, most):
        """For how many ticks the node may tell its answer, if nothing comes to it; None if for ever."""
        return ticks_to_tell(self._sight(), name, most)

    def _may_come(self, event):
        """Whether an event is new and of a first life, rests on told ones, and brings the node's own up to date."""
        if event[0] in self._told.places or event[0][1] > 0:
            return False
        if not all([step in self._told.places for step in steps_back(event)]):
            return False
        return event[0][0] != self._node or self._told.past_without(event) == self._told.everything()

    def _make_common(self, events):
        """Takes up events, in their order, among those that others can have seen."""
        for event in events:
            self._common_web.take(event)
            self._common = self._common | self._told.pasts[self._told.places[event[0]]]

    def _sight(self):
        """What the node has seen; its own event is the newest told one."""
        events = self._told.events
        if events == [] or events[-1][0][0] != self._node:
            raise Refused(self._node)
        ways = LiveWays(self._web, self._common_web, events[-1][0], self._left)
        return Sight(self._roster, self._node, self._told, self._common, self._left, ways)
