"""Instants for the events of a view, and the order in which they stand in a run."""

from goodtill.edges import scaled, unit_of
from goodtill.forms import steps_back
from goodtill.rates import NOUGHT, minus


def stands_behind(record, event):
    """The ids behind which an event stands in each run: its steps back, and what is ahead of it on its line."""
    ahead = record.neighbours(event[0])[0]
    return list(steps_back(event)) + ([] if ahead is None else [ahead[0]])


def line_order(record):
    """The events of a view in some order in which each stands behind its steps back and those ahead on its line."""
    order, left = [], {event[0]: stands_behind(record, event) for event in record.events}
    while left:
        free = [event_id for event_id, ahead in left.items() if all([other not in left for other in ahead])]
        for event_id in free:
            left.pop(event_id)
            order.append(record.event(event_id))
    return order


def late_instants(sight):
    """Instants for a node's view: its newest event at nought, all others as late ahead of it as can be."""
    return {event[0]: minus(NOUGHT, sight.ways.way_in(event[0])) for event in sight.record.events}


def timed(record, instants):
    """The events of a view with instants, which are under their ids, in an order in which they may stand in a run."""
    unit = unit_of(list(instants.values()))
    rows = [(scaled(instants[event[0]], unit), at, event) for at, event in enumerate(line_order(record))]
    return [(event, instants[event[0]]) for _, _, event in sorted(rows, key=lambda row: (row[0], row[1]))]
