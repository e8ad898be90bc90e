"""Pages that pass from house to house: who kept them, what their keeper owes, what is so at a place of a run."""

from goodtill.errors import Refused
from goodtill.forms import is_page_put, kind_of
from goodtill.holding import gives_of
from goodtill.losses import all_lost, is_torn, losses_of
from goodtill.pages import page_record
from goodtill.record import has_bit
from goodtill.runs import lost_in, record_of_run
from goodtill.sight import timeless_sight


def keeper_rows(events, term):
    """The keeper rows of a page and the nodes that they name, the eldest first."""
    record = page_record(events, term)
    return tuple(record.keeper_rows(term, record.everything()))


def labels_owed(record, term):
    """The labels of a page that bear a first entry, a put or a giving, ascending."""
    labels = {label: True for label in record.bearing.get(term, {})}
    for give in gives_of(record, term):
        labels[record.event(give)[2][2]] = True
    return sorted(labels)


def owed_gives(events, node, term):
    """The promises on each label of a page that a node keeps, by its view."""
    sight = timeless_sight(events, node)
    sight.need_page(term)
    if not sight.keeps(term):
        raise Refused(term)
    owed = []
    for label in labels_owed(sight.record, term):
        gives = sight.promises_on(term, label)
        if gives:
            owed.append((label, tuple(gives)))
    return tuple(owed)


def seen_at(record, run, place):
    """What each node with an event ahead of a place of a run has seen there, as pasts."""
    newest = {}
    for at, (event, _) in enumerate(run[:place]):
        newest[event[0][0]] = at
    return {node: record.pasts[at] for node, at in newest.items()}


def keepers_at(record, run, place, term):
    """The keepers of a page at a place of a run, with what each has seen there, as pasts."""
    losses = losses_of(record)
    found = {}
    for node, seen in seen_at(record, run, place).items():
        # By a torn past the puts and hand rows of a page need be no chain.
        if not is_torn(seen, losses) and record.has_page(term, seen) and record.keeper_row(term, seen)[1] == node:
            found[node] = seen
    return found


def bears_on(event, term):
    """Whether an event is a put or a giving of a page."""
    return kind_of(event) in ("put", "give") and event[2][1] == term


def unknown_to_keeper(run, place, term):
    """The ids of the puts and givings of a page ahead of a place, not lost, that a keeper there has not seen."""
    record = record_of_run(run)
    kept = record.everything() & ~all_lost(losses_of(record))
    keepers = list(keepers_at(record, run, place, term).values())
    # A page that is put behind the place has nobody ahead of it who has seen it.
    if not record.has_page(term, kept) or keepers == []:
        raise Refused(term)
    unknown = []
    for at, (event, _) in enumerate(run[:place]):
        if bears_on(event, term) and has_bit(kept, at) and not all([has_bit(seen, at) for seen in keepers]):
            unknown.append(event[0])
    return tuple(sorted(unknown))


def standing_terms(run, place):
    """The terms of the pages that stand at a place of a run, ascending."""
    lost = lost_in(run)
    puts = [event for at, (event, _) in enumerate(run[:place]) if kind_of(event) == "put" and not has_bit(lost, at)]
    last = {(event[2][1], event[2][2]): event[0] for event in puts}
    stands = {(): True}
    for event in puts:
        _, above, label, _ = event[2]
        if is_page_put(event) and above in stands and last[(above, label)] == event[0]:
            stands[event[0]] = True
    return tuple(sorted(stands))
