"""Walks down the tree of pages, by what stands at its places."""

from goodtill.forms import is_page_put, kind_of
from goodtill.labels import NAME_LABELS


def contents_of(events):
    """What the puts of some events, in their order, make of the tree: (term, label) to (term, entry)."""
    contents = {}
    for event in events:
        if kind_of(event) == "put":
            _, term, label, entry = event[2]
            contents[(term, label)] = (event[0], entry)
            if is_page_put(event):
                for first, below in entry[2]:
                    contents[(event[0], first)] = (event[0], below)
    return contents


def ended(entry, put, left):
    """What a walk ends with at an entry that is no other name, None if it goes on beneath."""
    if entry is None or (left and entry[0] == "value"):
        return ("nothing",)
    if entry[0] == "value":
        return entry
    if left:
        return None
    return ("page", entry[1], put)


def walk_by(contents, name, most):
    """The answer of a walk and its way, the places that it looked at."""
    names, way = [], {}
    term, left = (), name
    found = None
    while found is None:
        label, left = left[0], left[1:]
        way[(term, label)] = True
        put, entry = contents.get((term, label), (term, None))
        if entry is not None and entry[0] == "name":
            names.append(entry[1])
            if len(names) > most:
                found = ("far",)
            elif len(entry[1]) + len(left) > NAME_LABELS:
                found = ("long",)
            else:
                term, left = (), entry[1] + left
        else:
            found = ended(entry, put, left)
            term = put
    return ((found, tuple(names)), tuple(way))
