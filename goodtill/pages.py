"""Pages: who keeps them, and what stands on them."""

from goodtill.errors import Refused
from goodtill.labels import gap_of
from goodtill.record import record_of
from goodtill.views import view_of


def page_record(events, term):
    """The record of a row in which a page is there."""
    record = record_of(events)
    if not record.has_page(term, record.everything()):
        raise Refused(term)
    return record


def keeper_of(events, term):
    """The newest keeper row of a page and the node that it names."""
    record = page_record(events, term)
    return record.keeper_row(term, record.everything())


def does_keep(events, node, term):
    """Whether a node keeps a page by its own view."""
    view = view_of(events, node)
    record = record_of(view)
    # A node without an event keeps nothing, not even the root.
    if view == () or not record.has_page(term, record.everything()):
        return False
    return record.keeper_row(term, record.everything())[1] == node


def content_of(events, term, label):
    """The newest put at a label of a page, or else its term, and the entry that stands there."""
    record = page_record(events, term)
    return record.content(term, label, record.everything())


def page_rows(events, term):
    """The labels of a page at which an entry stands, with it, ascending."""
    record = page_record(events, term)
    return tuple(record.standing(term, record.everything()))


def page_gap(events, term, label):
    """The nearest labels of a page, below and above one at which nothing stands, at which an entry stands."""
    return gap_of([first for first, _ in page_rows(events, term)], label)
