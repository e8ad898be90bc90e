"""The tree of pages by a row of events: walks down, ways to places, pages that are a node's own."""

from goodtill.pages import page_record
from goodtill.sight import timeless_sight
from goodtill.walks import contents_of, walk_by


def way_down(record, term, label):
    """The places that lead down to a place of a page, which is there, the root's first, and the place itself."""
    way = [(term, label)]
    while way[-1][0] != ():
        _, above, at, _ = record.event(way[-1][0])[2]
        way.append((above, at))
    return tuple(way[::-1])


def is_cut_off(record, term, past):
    """Whether by a past the place of a page, which is there, or of one above it, has a newer put."""
    while term != ():
        _, above, at, _ = record.event(term)[2]
        if record.content(above, at, past)[0] != term:
            return True
        term = above
    return False


def walk_view(events, name, most):
    """The answer of a walk, and the places that it looked at."""
    return walk_by(contents_of(events), name, most)


def way_to(events, term, label):
    """The way down to a place of a page."""
    return way_down(page_record(events, term), term, label)


def is_broken(events, term):
    """Whether a page, or one above it, is not what its place points to any more."""
    record = page_record(events, term)
    return is_cut_off(record, term, record.everything())


def is_fast(events, node, term):
    """Whether a page is the node's own: nobody else can know that he keeps it."""
    sight = timeless_sight(events, node)
    sight.need_page(term)
    return sight.is_sole(term)
