"""What shows that an answer may not be told."""

from goodtill.judging import keeps_to_rule, next_deed
from goodtill.runs import is_run, is_stale, record_of_run
from goodtill.views import view_of


def slip_serves(roster, events, node, name, most, answer, run):
    """Whether any value is a run that shows that a node may not tell an answer."""
    view = view_of(events, node)
    if view == () or run == () or not is_run(roster, run):
        return False
    record = record_of_run(run)
    shown = next_deed(record, view, node, ("tell", name, most, answer))
    if shown is None or shown != record.events[-1]:
        return False
    return keeps_to_rule(roster, record, view, shown) and is_stale(run, len(run) - 1)
