"""All that a node is certain of."""

from goodtill.finders import hold_by, hold_on
from goodtill.holding import gives_of
from goodtill.rates import low_of
from goodtill.sight import sight_of


def reaches_over(span, low, high):
    """Whether what a promise covers is a gap that reaches over a stretch, None for no end."""
    if span[0] != "gap":
        return False
    if span[1] is not None and (low is None or span[1] > low):
        return False
    return span[2] is None or (high is not None and span[2] >= high)


def hold_over(sight, term, low, high):
    """By what a node is certain of a stretch of a page, and for how many ticks, as hold_by tells it."""
    gives = gives_of(sight.record, term)
    return hold_by(sight, term, [give for give in gives if reaches_over(sight.record.span(give), low, high)])


def spans_of(sight, term):
    """The parts of a page, cut at each label that bears a put or a first entry."""
    parts, low = [], None
    for label in sorted(sight.record.bearing.get(term, {})):
        parts.append(("open", low, label))
        parts.append(("label", label))
        low = label
    return parts + [("open", low, None)]


def rows_of(sight, term, path, above):
    """The rows of a page and the pages beneath it; path leads down to it, above are the ticks on the way there."""
    rows, beneath = [], []
    for span in spans_of(sight, term):
        put, entry = None, None
        if span[0] == "label":
            put, entry = sight.record.content(term, span[1], sight.whole)
            why, ticks = hold_on(sight, term, span[1])
        else:
            why, ticks = hold_over(sight, term, span[1], span[2])
        if why is not None:
            least = low_of((above, ticks))
            rows.append((path, span, entry, least))
            if entry is not None and entry[0] == "page":
                beneath.extend(rows_of(sight, put, path + (span[1],), least))
    return rows + beneath


def pocket_of(roster, events, node):
    """A row for each part of a page of which a node is certain, the pages by the labels that lead down to them."""
    return tuple(rows_of(sight_of(roster, events, node), (), (), None))
