"""Nodes that stop: what must be flushed ahead of a deed, the harms of runs, and keepers of journals."""

from goodtill.errors import BadDeed, Refused
from goodtill.forms import is_deed, is_event, is_weighty, kind_of
from goodtill.harms import harm_at, leaned_on
from goodtill.journal import Journal, left_of
from goodtill.losses import losses_of
from goodtill.orders import late_instants, timed
from goodtill.pasts import newest_in, past_in
from goodtill.rates import NOUGHT, is_below, is_fraction, is_whole
from goodtill.runs import is_run, record_of_run
from goodtill.sight import sight_of, timeless_sight
from goodtill.stage import SLOW, Stage
from goodtill.views import is_later_start, is_view

# What a run that shows a harm may have beside the node's view, the deed and the start behind the stop.
LIGHT = ("start", "tick", "send", "hear", "ask")


def is_of_life(event_id, node, life):
    """Whether what may be an id, or None, is that of an event of a life of a node."""
    return event_id is not None and event_id[:2] == (node, life)


def need_flushed(sight, flushed):
    """Raises Refused if a stop can't leave an event as the newest one of the node that it surely leaves."""
    _, life, _ = sight.newest_by(sight.node)[0]
    if flushed == sight.record.event((sight.node, life, 0))[2][1]:
        return
    if not is_of_life(flushed, sight.node, life) or flushed not in sight.record.places:
        raise Refused(flushed)


def need_telling(node, deed):
    """Raises Refused if any value is neither a letter from a node to another one nor a telling."""
    if not is_deed(deed) or deed[0] not in ("send", "tell") or deed == ("send", node):
        raise Refused(deed)


def open_deeds(sight, flushed):
    """The weighty deeds of the node's life that a stop may leave out, ascending."""
    _, life, _ = sight.newest_by(sight.node)[0]
    own = [sight.record.event(event_id) for event_id in sight.record.lines[sight.node] if event_id[1] == life]
    if is_of_life(flushed, sight.node, life):
        own = [event for event in own if event[0] > flushed]
    return [event for event in own if is_weighty(event)]


def flush_by(sight, flushed, deed):
    """The newest deed that must be flushed ahead of a letter or a telling, None if there is none."""
    weighty = [event[0] for event in open_deeds(sight, flushed)]
    if deed[0] == "tell":
        leaned = leaned_on(sight.record.events, deed[1], deed[2])
        weighty = [event_id for event_id in weighty if event_id in leaned]
    return weighty[-1] if weighty else None


def needed_flush(roster, events, node, flushed, deed):
    """The newest deed of a node that must be flushed ahead of a letter or a telling, None if there is none."""
    sight = timeless_sight(events, node)
    need_flushed(sight, flushed)
    need_telling(node, deed)
    return flush_by(sight, flushed, deed)


def harm_of(run):
    """The first harm in a run, a word for it and its place; None if there is none."""
    record = record_of_run(run)
    losses = losses_of(record)
    for place in range(len(run)):
        word = harm_at(record, losses, place)
        if word is not None:
            return (word, place)
    return None


def stop_run(roster, events, node, flushed, deed):
    """Some run in which a node does a deed that leans on what is not flushed, stops, and starts without it."""
    if needed_flush(roster, events, node, flushed, deed) is None:
        raise Refused(deed)
    sight, stage = sight_of(roster, events, node), Stage(roster, SLOW)
    for event, instant in timed(sight.record, late_instants(sight)):
        stage.lay(event, instant)
    (_, life, _), reading, _ = sight.newest_by(node)
    done = stage.do(node, deed, NOUGHT)
    if deed[0] == "send":
        stage.do(deed[1], ("hear", done), NOUGHT)
    stage.lay(((node, life + 1, 0), reading, ("start", flushed)), NOUGHT)
    if deed[0] == "send":
        stage.letter(node, deed[1], NOUGHT)
    return stage.run()


def leaves_out(start, node, life, flushed, needed):
    """Whether a start is of a node's next life, and keeps what is flushed and not what was needed."""
    event_id, _, (_, kept) = start
    if event_id != (node, life + 1, 0):
        return False
    if kept == flushed:
        return True
    if not is_of_life(kept, node, life) or kept >= needed:
        return False
    return not is_of_life(flushed, node, life) or kept > flushed


def shows_harm(record, done, start):
    """Whether a letter is heard together with the start that leaves out what it tells; a telling is harm enough."""
    if kind_of(done) == "tell":
        return True
    pair = (1 << record.places[done[0]]) | (1 << record.places[start[0]])
    hearings = [past for event, past in zip(record.events, record.pasts) if kind_of(event) == "hear"]
    return any([past & pair == pair for past in hearings])


def stop_by(sight, flushed, deed, record):
    """Whether the events of a run show what comes of a deed ahead of which something should have been flushed."""
    node, needed = sight.node, flush_by(sight, flushed, deed)
    (_, life, number), reading, _ = sight.newest_by(node)
    done = ((node, life, number + 1), reading, deed)
    known = {event[0]: event for event in sight.record.events}
    known[done[0]] = done
    found = {event[0]: event for event in record.events if event[0] in known}
    if found != known or (node, life, number + 2) in record.places:
        return False
    others = [event for event in record.events if event[0] not in known]
    starts = [event for event in others if is_later_start(event)]
    if len(starts) != 1 or not leaves_out(starts[0], node, life, flushed, needed):
        return False
    return all([kind_of(event) in LIGHT for event in others]) and shows_harm(record, done, starts[0])


def stop_serves(roster, events, node, flushed, deed, run):
    """Whether any value is a run that shows what comes of a deed ahead of which something should have been flushed."""
    try:
        needed = needed_flush(roster, events, node, flushed, deed)
    except Refused:
        return False
    if needed is None or not is_run(roster, run):
        return False
    return stop_by(timeless_sight(events, node), flushed, deed, record_of_run(run))


class Keeper:
    """A node that writes down what it does and hears; it stops, and starts with what is left."""

    def __init__(self, roster, node):
        self._roster = roster
        self._node = node
        self._journal = Journal(node)
        self._runs = False
        self._lives = 0
        self._reading = None

    def start(self, reading):
        """Begins the next life; returns its start."""
        if self._runs or not is_fraction(reading) or (self._reading is not None and is_below(reading, self._reading)):
            raise BadDeed(0)
        event = ((self._node, self._lives, 0), reading, ("start", newest_in(self.view(), self._node)))
        self._journal.write(event)
        self._runs = True
        self._lives += 1
        self._reading = reading
        return event

    def do(self, event, letter):
        """Does the node's next event; whether all rows were flushed ahead of it."""
        if not self._runs or not is_event(event) or event[0] != self._next_id():
            raise BadDeed(0)
        seen = self.view()
        news = tuple([other for other in letter if other not in seen])
        row = seen + news + (event,)
        if (kind_of(event) != "hear" and letter != ()) or not is_view(row) or past_in(row, event[0]) != row:
            raise BadDeed(0)
        flushes = self._must_flush(event[2])
        if flushes:
            self._journal.flush()
        for other in news + (event,):
            self._journal.write(other)
        self._reading = event[1]
        return flushes

    def cuts(self):
        """How many rows a stop leaves at the fewest and at the most; while it is stopped, how many are left."""
        return self._journal.cuts()

    def stop(self, rows):
        """Stops the node with a number of rows."""
        fewest, most = self.cuts()
        if not self._runs or not is_whole(rows) or rows < fewest or rows > most:
            raise BadDeed(0)
        left = left_of(self.view()[:rows], self._node)
        self._journal = Journal(self._node)
        for event in left:
            self._journal.write(event)
        self._journal.flush()
        self._runs = False

    def view(self):
        """The rows that the journal holds, or that are left."""
        return self._journal.rows()

    def _next_id(self):
        """The id of the next event of the node's life."""
        node, life, number = newest_in(self.view(), self._node)
        return (node, life, number + 1)

    def _must_flush(self, deed):
        """Whether all rows must be flushed ahead of a deed."""
        if deed[0] not in ("send", "tell"):
            return False
        seen = self.view()
        flushed = newest_in(seen[:self.cuts()[0]], self._node)
        return needed_flush(self._roster, seen, self._node, flushed, deed) is not None
