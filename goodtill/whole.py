"""What all nodes may do at a place of a run, and what would come of it if they did more."""

from goodtill.coming import would_change
from goodtill.custody import seen_at
from goodtill.errors import Refused
from goodtill.finders import told_by
from goodtill.forms import is_deed
from goodtill.hastes import haste_by
from goodtill.houses import need_house, put_by
from goodtill.losses import is_torn, losses_of
from goodtill.runs import record_of_run
from goodtill.sight import sight_of
from goodtill.slips import slip_by
from goodtill.tree import walk_view


def tells_of(sight, names, most):
    """For each name the answer that a node may tell, or a run that shows why it may not."""
    rows = []
    for name in names:
        told = told_by(sight, name, most)[0]
        if told[0] != "told":
            answer = walk_view(sight.record.events, name, most)[0]
            told = ("slip", slip_by(sight, name, most, answer))
        rows.append((name, told))
    return tuple(rows)


def own_places(sight):
    """The places of the pages that a node keeps at which there is a put or a first entry, ascending."""
    places = []
    for term, labels in sight.record.bearing.items():
        if sight.keeps(term):
            places.extend([(term, label) for label in labels])
    return sorted(places)


def puts_of(sight):
    """For each place of a node's pages why it may change what stands there, or a run that shows why it may not."""
    rows = []
    for term, label in own_places(sight):
        may = put_by(sight, term, label)
        if may[0] != "let":
            stands = sight.record.content(term, label, sight.whole)[1] is not None
            may = ("haste", haste_by(sight, term, label, None if stands else ("value", 0)))
        rows.append(((term, label), may))
    return tuple(rows)


def whole_meter(roster, run, place, names, most):
    """For each node what it may tell and put at a place of a run, with runs that show why it may do no more."""
    record = record_of_run(run)
    losses, seen = losses_of(record), seen_at(record, run, place)
    rows = []
    for node in sorted(seen):
        if not is_torn(seen[node], losses):
            sight = sight_of(roster, tuple(record.events_of(seen[node])), node)
            rows.append((node, tells_of(sight, names, most), puts_of(sight)))
    return tuple(rows)


def wider_telling(sight, deed):
    """A run that shows why a node may not tell, None if it may."""
    _, name, most, answer = deed
    if told_by(sight, name, most)[0] == ("told", answer):
        return None
    return slip_by(sight, name, most, answer)


def wider_put(sight, deed):
    """A run that shows why a node may not put, None if it may."""
    _, term, label, entry = deed
    need_house(sight, term, label)
    if not would_change(sight.record, term, label, entry, sight.whole):
        raise Refused(entry)
    if put_by(sight, term, label)[0] == "let":
        return None
    return haste_by(sight, term, label, entry)


def wider_run(roster, events, node, deed):
    """A run that shows why a node may not do a telling or a put, None if it may."""
    sight = sight_of(roster, events, node)
    if not is_deed(deed) or deed[0] not in ("tell", "put"):
        raise Refused(deed)
    if deed[0] == "tell":
        return wider_telling(sight, deed)
    return wider_put(sight, deed)
