"""Webs: the longest ways between events, kept up as events are added, and positive rings."""

from math import lcm

from goodtill.edges import (
    all_unscaled, clock_weights, edges_of, longest_ways, places_of, settled, turned, unit_of_row, unscaled,
)
from goodtill.errors import Refused
from goodtill.forms import is_id, kind_of, steps_back


def longer(one, two):
    """The greater of two lengths, of which each may be None."""
    if one is None or (two is not None and two > one):
        return two
    return one


def stretched(far, weight):
    """A length with an edge more, None if there is no way."""
    if far is None:
        return None
    return far + weight


class Web:
    """A web of events with the lengths of the longest ways between all of them."""

    def __init__(self, roster):
        self._roster = roster
        self._unit = 1
        self._places = {}
        self._events = []
        self._far = []

    def add(self, event):
        """Adds an event, if it is new, rests on events of the web and closes no positive ring."""
        event_id = event[0]
        if event_id in self._places:
            raise Refused(event_id)
        if any([step not in self._places for step in steps_back(event)]):
            raise Refused(event_id)
        self._widen(event[1][1])
        into, out = self._new_edges(event)
        to_it = [self._way_into(row, into) for row in self._far]
        # Beside each edge from it stands one back, so there is a way.
        if any([to_it[place] + weight > 0 for place, weight in out]):
            raise Refused(event_id)
        self._grow(to_it, self._ways_out(out))
        self._places[event_id] = len(self._events)
        self._events.append(event)

    def way(self, x, y):
        """The length of the longest way between two events, None if there is no way."""
        if x not in self._places:
            raise Refused(x)
        if y not in self._places:
            raise Refused(y)
        return unscaled(self._far[self._places[x]][self._places[y]], self._unit)

    def ids(self):
        """The ids of all events, ascending."""
        return tuple(sorted(self._places))

    def _widen(self, denominator):
        """Makes the unit serve for one denominator more; what the lengths stand for stays."""
        unit = lcm(self._unit, denominator)
        factor = unit // self._unit
        if factor > 1:
            self._far = [[None if far is None else far * factor for far in row] for row in self._far]
            self._unit = unit

    def _new_edges(self, event):
        """The edges to a new event and from it, as pairs of a place and a weight."""
        into, out = [], []
        ahead = behind = None
        for other in self._events:
            if other[0][0] == event[0][0]:
                if other[0] < event[0] and (ahead is None or other[0] > ahead[0]):
                    ahead = other
                if other[0] > event[0] and (behind is None or other[0] < behind[0]):
                    behind = other
        if ahead is not None:
            weight, back = clock_weights(self._roster, ahead, event, self._unit)
            into.append((self._places[ahead[0]], weight))
            out.append((self._places[ahead[0]], back))
        if behind is not None:
            weight, back = clock_weights(self._roster, event, behind, self._unit)
            into.append((self._places[behind[0]], back))
            out.append((self._places[behind[0]], weight))
        if kind_of(event) == "hear":
            into.append((self._places[event[2][1]], 0))
        return into, out

    def _way_into(self, row, into):
        """The longest way to a new event from the one that has this row of lengths."""
        far = None
        for place, weight in into:
            far = longer(far, stretched(row[place], weight))
        return far

    def _ways_out(self, out):
        """The longest ways from a new event to all others."""
        far = [None] * len(self._far)
        for place, weight in out:
            far = [longer(old, stretched(way, weight)) for old, way in zip(far, self._far[place])]
        return far

    def _grow(self, to_it, from_it):
        """Takes up the ways that lead through a new event, to it and from it."""
        rows = []
        for row, way in zip(self._far, to_it):
            rows.append(self._row_grown(row, way, from_it) + [way])
        rows.append(from_it + [0])
        self._far = rows

    def _row_grown(self, row, way, from_it):
        """The lengths from one event to the elder ones, those through the new event among them."""
        if way is None:
            return row
        return [longer(old, stretched(onward, way)) for old, onward in zip(row, from_it)]


def web_of(roster, events):
    """The web of the events of a row."""
    web = Web(roster)
    for event in events:
        web.add(event)
    return web


def ways_along(events, edges, event_id, unit):
    """The lengths of the longest ways along edges from the event of an id to each."""
    places = places_of(events)
    if event_id not in places:
        raise Refused(event_id)
    return all_unscaled(longest_ways(len(events), edges, places[event_id]), unit)


def ways_from(roster, events, event_id):
    """For each event of a row the length of the longest way to it from the event of an id."""
    unit = unit_of_row(events)
    return ways_along(events, edges_of(roster, events, unit), event_id, unit)


def ways_to(roster, events, event_id):
    """For each event of a row the length of the longest way from it to the event of an id."""
    unit = unit_of_row(events)
    return ways_along(events, turned(edges_of(roster, events, unit)), event_id, unit)


def positive_ring(roster, events):
    """Some positive ring of a row, None if it has none."""
    edges = edges_of(roster, events, unit_of_row(events))
    _, before, place = settled([0] * len(events), edges)
    if place is None:
        return None
    # As many steps back as there are events lead into the ring for sure.
    for _ in range(len(events)):
        place = before[place]
    ring = [place]
    while before[ring[-1]] != place:
        ring.append(before[ring[-1]])
    return tuple([events[at][0] for at in reversed(ring)])


def ring_serves(roster, events, ring):
    """Whether any value is a positive ring of a row."""
    if not isinstance(ring, tuple) or len(ring) < 2 or not all([is_id(entry) for entry in ring]):
        return False
    if len(set(ring)) < len(ring):
        return False
    edges = edges_of(roster, events, unit_of_row(events))
    weights = {(events[x][0], events[y][0]): weight for x, y, weight in edges}
    total = 0
    for at in range(len(ring)):
        pair = (ring[at - 1], ring[at])
        if pair not in weights:
            return False
        total = total + weights[pair]
    return total > 0
