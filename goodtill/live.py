"""Longest ways between the live events of a row of first lives, kept up as events are added.

Live are the last event of each line, and each send that none has heard: new ways come from ways between these alone.
"""

from math import lcm

from goodtill.edges import clock_weights, unscaled
from goodtill.errors import Refused
from goodtill.forms import kind_of
from goodtill.webs import longer, stretched


class LiveWeb:
    """The ways between the live events, times the unit."""

    def __init__(self, roster):
        self._roster = roster
        self._unit = 1
        self._last = {}
        self._unheard = {}
        self._far = {}

    def ids(self):
        """The ids of the live events, ascending."""
        return tuple(sorted(self._far))

    def way(self, x, y):
        """The length of the longest way between two live events, None if there is no way."""
        if x not in self._far:
            raise Refused(x)
        if y not in self._far:
            raise Refused(y)
        return unscaled(self._far[x].get(y), self._unit)

    def closes_ring(self, event):
        """Whether there would be a positive ring with an event that is the next one of its line."""
        self._widen(event[1][1])
        back = self._ways_out(event).get(self._heard_live(event))
        return back is not None and back > 0

    def take(self, event):
        """Adds an event that is the next one of its line and closes no positive ring."""
        self._widen(event[1][1])
        ahead, heard = self._last.get(event[0][0]), self._heard_live(event)
        self._grow(event[0], self._ways_in(event, heard), self._ways_out(event), heard)
        self._last[event[0][0]] = event
        if kind_of(event) == "send":
            self._unheard[event[0]] = True
        if heard is not None:
            self._unheard.pop(heard, None)
            self._leave_out(heard)
        if ahead is not None:
            self._leave_out(ahead[0])

    def _widen(self, denominator):
        """Makes the unit serve for one denominator more; what the lengths stand for stays."""
        unit = lcm(self._unit, denominator)
        factor = unit // self._unit
        if factor > 1:
            self._far = {x: {y: far * factor for y, far in row.items()} for x, row in self._far.items()}
            self._unit = unit

    def _heard_live(self, event):
        """The live send that an event hears, None if there is none."""
        if kind_of(event) == "hear" and event[2][1] in self._far:
            return event[2][1]
        return None

    def _ways_in(self, event, heard):
        """The longest ways to a new event."""
        ahead = self._last.get(event[0][0])
        into = {}
        for x, row in self._far.items():
            far = row.get(heard)
            if ahead is not None:
                weight = clock_weights(self._roster, ahead, event, self._unit)[0]
                far = longer(far, stretched(row.get(ahead[0]), weight))
            if far is not None:
                into[x] = far
        return into

    def _ways_out(self, event):
        """The longest ways from a new event to the elder ones: all lead back along its line."""
        ahead = self._last.get(event[0][0])
        if ahead is None:
            return {}
        back = clock_weights(self._roster, ahead, event, self._unit)[1]
        return {y: far + back for y, far in self._far[ahead[0]].items()}

    def _grow(self, event_id, into, out, heard):
        """Takes up the ways to a new event and from it, and, if it hears a live send, those through it."""
        for x, far in into.items():
            row = self._far[x]
            # Without a letter, each way through the new event leads back to where it left the line.
            if heard is not None:
                for y, onward in out.items():
                    row[y] = longer(row.get(y), far + onward)
            row[event_id] = far
        self._far[event_id] = {**out, event_id: 0}

    def _is_live(self, event_id):
        """Whether an event is the last one of its line, or a send that none has heard."""
        return event_id in self._unheard or self._last[event_id[0]][0] == event_id

    def _leave_out(self, event_id):
        """Leaves out an event that is live no more."""
        if not self._is_live(event_id):
            self._far.pop(event_id)
            for row in list(self._far.values()):
                row.pop(event_id, None)
