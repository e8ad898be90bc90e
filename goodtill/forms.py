"""The forms of events: what is a node, an id, a term, an entry, an answer, a deed, an event."""

from goodtill.labels import is_label, is_name
from goodtill.rates import is_fraction, is_whole

LAST_NODE = 31
MOST_NAMES = 8
FIRST_ENTRIES = 6

# The kinds of deeds, in the order in which they are numbered on the wire.
KINDS = ("start", "tick", "send", "hear", "put", "give", "pass", "swear", "hand", "tell", "ask")

# The parts of each deed behind its kind.
PARTS = {
    "start": ("kept",),
    "tick": (),
    "send": ("node",),
    "hear": ("id",),
    "put": ("term", "label", "entry"),
    "give": ("term", "label", "fraction", "node"),
    "pass": ("id", "node"),
    "swear": ("id",),
    "hand": ("term", "node"),
    "tell": ("name", "most", "answer"),
    "ask": ("name", "most"),
}

WEIGHTY = ("put", "give", "pass", "swear", "hand")


def is_node(value):
    """Whether a value is the name of a node."""
    return is_whole(value) and 0 <= value <= LAST_NODE


def is_most(value):
    """Whether a value may tell how many names a walk follows at most."""
    return is_whole(value) and 0 <= value <= MOST_NAMES


def is_count(value):
    """Whether a value is a whole number from 0 on."""
    return is_whole(value) and value >= 0


def is_id(value):
    """Whether a value is an id (node, life, number)."""
    if not isinstance(value, tuple) or len(value) != 3:
        return False
    return is_node(value[0]) and is_count(value[1]) and is_count(value[2])


def is_kept(value):
    """Whether a value may stand in a start."""
    return value is None or is_id(value)


def is_term(value):
    """Whether a value is the term of a page."""
    return value == () or is_id(value)


def is_value(value):
    """Whether a value is a ("value", v)."""
    return isinstance(value, tuple) and len(value) == 2 and value[0] == "value" and is_count(value[1])


def is_first_entry(value):
    """Whether a value may stand at a label when a page is made."""
    if is_value(value):
        return True
    return isinstance(value, tuple) and len(value) == 2 and value[0] == "name" and is_name(value[1])


def are_first_entries(value):
    """Whether a value is a row of first entries, their labels ascending."""
    if not isinstance(value, tuple) or len(value) > FIRST_ENTRIES:
        return False
    ahead = ""
    for pair in value:
        if not isinstance(pair, tuple) or len(pair) != 2:
            return False
        label, entry = pair
        if not is_label(label) or label <= ahead or not is_first_entry(entry):
            return False
        ahead = label
    return True


def is_pointer(value):
    """Whether a value is a ("page", house, rows)."""
    if not isinstance(value, tuple) or len(value) != 3 or value[0] != "page":
        return False
    return is_node(value[1]) and are_first_entries(value[2])


def is_entry(value):
    """Whether a value is an entry."""
    return value is None or is_first_entry(value) or is_pointer(value)


def is_found(value):
    """Whether a value may be what a walk ends with."""
    if value in (("nothing",), ("long",), ("far",)) or is_value(value):
        return True
    if not isinstance(value, tuple) or len(value) != 3 or value[0] != "page":
        return False
    return is_node(value[1]) and is_term(value[2])


def is_answer(value):
    """Whether a value is an answer (what, names)."""
    if not isinstance(value, tuple) or len(value) != 2 or not is_found(value[0]):
        return False
    names = value[1]
    if not isinstance(names, tuple) or len(names) > MOST_NAMES + 1:
        return False
    return all([is_name(name) for name in names])


CHECKS = {
    "kept": is_kept,
    "node": is_node,
    "id": is_id,
    "term": is_term,
    "most": is_most,
    "count": is_count,
    "entry": is_entry,
    "answer": is_answer,
}


def is_part(part, value):
    """Whether a value may be this part of a deed."""
    if part == "label":
        return is_label(value)
    if part == "name":
        return is_name(value)
    if part == "fraction":
        return is_fraction(value)
    check = CHECKS[part]
    return check(value)


def are_parts(parts, values):
    """Whether some values are just these parts of a deed, in their order."""
    return len(values) == len(parts) and all([is_part(part, value) for part, value in zip(parts, values)])


def is_deed(value):
    """Whether a value is one of the eleven deeds."""
    if not isinstance(value, tuple) or len(value) == 0 or value[0] not in KINDS:
        return False
    return are_parts(PARTS[value[0]], value[1:])


def event_fault(value):
    """None if a value is an event, otherwise where it is at fault."""
    if not isinstance(value, tuple) or len(value) != 3:
        return -1
    if not is_id(value[0]):
        return 0
    if not is_fraction(value[1]):
        return 1
    if not is_deed(value[2]):
        return 2
    return None


def is_event(value):
    """Whether a value is an event."""
    return event_fault(value) is None


def kind_of(event):
    """The kind of an event's deed."""
    return event[2][0]


def is_weighty(event):
    """Whether an event is a put, a giving, a passing, a swearing or a hand row."""
    return event[2][0] in WEIGHTY


def is_page_put(event):
    """Whether an event puts a page."""
    deed = event[2]
    return deed[0] == "put" and deed[3] is not None and deed[3][0] == "page"


def steps_back(event):
    """The ids of the events on which this one rests, in the order in which the document tells them."""
    event_id, _, deed = event
    if deed[0] == "start":
        return () if deed[1] is None else (deed[1],)
    ahead = (event_id[0], event_id[1], event_id[2] - 1)
    if deed[0] == "hear":
        return (ahead, deed[1])
    return (ahead,)
