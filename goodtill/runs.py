"""Runs: events with the instants at which they happen, and what is so at their places."""

from goodtill.coming import comes_by_nine
from goodtill.edges import bounds_of
from goodtill.errors import BadDeed, BadRun, Refused
from goodtill.fits import is_apart
from goodtill.forms import kind_of
from goodtill.losses import all_lost, is_torn, losses_by, losses_of
from goodtill.pasts import by_id, newest_in, past_ids, past_in
from goodtill.rates import is_below, is_fraction
from goodtill.record import Record, has_bit, record_of
from goodtill.walks import contents_of, walk_by


class World:
    """A run that grows."""

    def __init__(self, roster):
        self._roster = roster
        self._run = []
        self._row = Record()
        self._losses = []

    def add(self, event, instant):
        """Puts an event with its instant behind the run, if it may come there."""
        if not is_fraction(instant) or not comes_by_nine(self._row, event):
            raise BadDeed(0)
        if not self._is_in_time(event, instant):
            raise BadDeed(0)
        if kind_of(event) != "hear" and is_torn(self._row.past_without(event), self._losses):
            raise BadDeed(0)
        self._row.take(event)
        self._run.append((event, instant))
        self._losses.extend(losses_by(self._row, event))

    def run(self):
        """The run so far."""
        return tuple(self._run)

    def view(self, node):
        """What a node has seen so far."""
        return seen_by(self.run(), len(self._run), node)

    def walk(self, name, most):
        """The answer of a walk by what is so now."""
        return walk_truth(self.run(), len(self._run), name, most)

    def _is_in_time(self, event, instant):
        """Whether an event is the next one of its node and its instant may be the next one of the run."""
        if self._run and is_below(instant, self._run[-1][1]):
            return False
        line = self._row.lines.get(event[0][0], [])
        if not line:
            return True
        if line[-1] > event[0]:
            return False
        last, stood = self._run[self._row.places[line[-1]]]
        return is_apart(bounds_of(self._roster, event[0][0]), (last[1], stood), (event[1], instant))


def check_run(roster, run):
    """The value, if it is a run; otherwise raises BadRun."""
    if not isinstance(run, tuple):
        raise BadRun(-1)
    world = World(roster)
    for at, entry in enumerate(run):
        if not isinstance(entry, tuple) or len(entry) != 2:
            raise BadRun(at)
        event, instant = entry
        try:
            world.add(event, instant)
        except BadDeed:
            raise BadRun(at) from None
    return run


def is_run(roster, run):
    """Whether any value is a run."""
    try:
        check_run(roster, run)
    except BadRun:
        return False
    return True


def events_ahead(run, place):
    """The events ahead of a place of a run."""
    return tuple([event for event, _ in run[:place]])


def record_of_run(run):
    """The record of all events of a run."""
    return record_of(events_ahead(run, len(run)))


def seen_by(run, place, node):
    """What a node has seen ahead of a place: the past of its last event there."""
    events = events_ahead(run, place)
    newest = newest_in(events, node)
    if newest is None:
        return ()
    return past_in(events, newest)


def past_rows(run, event_id):
    """The events of an event's past in a run, under their ids."""
    found = by_id(events_ahead(run, len(run)))
    if event_id not in found:
        raise Refused(event_id)
    return {step: found[step] for step in past_ids(found, [event_id])}


def are_alike(one, two, event_id):
    """Whether the past of an event is the same in two runs."""
    return past_rows(one, event_id) == past_rows(two, event_id)


def lost_in(run):
    """The lost weighty deeds of a run, as a past."""
    return all_lost(losses_of(record_of_run(run)))


def lost_puts(run):
    """The ids of the lost puts of a run, ascending."""
    lost = lost_in(run)
    events = [event for place, (event, _) in enumerate(run) if has_bit(lost, place)]
    return tuple(sorted([event[0] for event in events if kind_of(event) == "put"]))


def walk_so(run, place, name, most):
    """The answer of a walk by what is so at a place of a run, and the places that it looks at."""
    lost = lost_in(run)
    kept = [event for at, (event, _) in enumerate(run[:place]) if not has_bit(lost, at)]
    return walk_by(contents_of(kept), name, most)


def walk_truth(run, place, name, most):
    """The answer of a walk by what is so at a place of a run."""
    return walk_so(run, place, name, most)[0]


def is_stale(run, place):
    """Whether the answer of the telling at a place is not what is so there."""
    if place >= len(run) or kind_of(run[place][0]) != "tell":
        raise Refused(place)
    _, name, most, answer = run[place][0][2]
    return answer != walk_truth(run, place, name, most)
