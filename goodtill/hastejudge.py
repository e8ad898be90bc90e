"""What shows that a change may not be let."""

from goodtill.forms import kind_of
from goodtill.judging import keeps_to_rule, next_deed, past_events
from goodtill.losses import all_lost, losses_of
from goodtill.record import has_bit
from goodtill.runs import is_run, is_stale, record_of_run
from goodtill.tree import walk_view
from goodtill.views import view_of


def has_missed(record, teller, shown, place):
    """Whether a telling misses a shown put at a place of the way that it walks, and no other put that is not lost."""
    past = record.past_without(teller)
    if record.has_within(shown[0], past):
        return False
    _, name, most, _ = teller[2]
    way = walk_view(past_events(record, teller), name, most)[1]
    seen = past | all_lost(losses_of(record)) | (1 << record.places[shown[0]])
    puts = [at for key in way for at in record.puts.get(key, [])]
    return place in way and all([has_bit(seen, at) for at in puts])


def haste_serves(roster, events, node, term, label, entry, run):
    """Whether any value is a run that shows that a node may not put an entry at a place."""
    view = view_of(events, node)
    if view == () or run == () or not is_run(roster, run):
        return False
    record = record_of_run(run)
    shown, teller = next_deed(record, view, node, ("put", term, label, entry)), record.events[-1]
    if shown is None or kind_of(teller) != "tell" or teller[0][0] == node:
        return False
    if not keeps_to_rule(roster, record, view, shown):
        return False
    return has_missed(record, teller, shown, (term, label)) and is_stale(run, len(run) - 1)
