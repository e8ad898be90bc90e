"""Labels, names, the gaps between labels."""

from goodtill.errors import BadLabel, BadName, Refused

LABEL_LETTERS = 8
NAME_LABELS = 6


def label_fault(value):
    """None if a value is a label, otherwise where it is at fault."""
    if not isinstance(value, str) or value == "":
        return -1
    for at, letter in enumerate(value):
        if at == LABEL_LETTERS or letter < "a" or letter > "z":
            return at
    return None


def is_label(value):
    """Whether a value is a label."""
    return label_fault(value) is None


def check_label(value):
    """The value, if it is a label; otherwise raises BadLabel."""
    fault = label_fault(value)
    if fault is not None:
        raise BadLabel(fault)
    return value


def name_fault(value):
    """None if a value is a name, otherwise where it is at fault."""
    if not isinstance(value, tuple) or len(value) == 0:
        return -1
    for at, label in enumerate(value):
        if at == NAME_LABELS or not is_label(label):
            return at
    return None


def is_name(value):
    """Whether a value is a name."""
    return name_fault(value) is None


def check_name(value):
    """The value, if it is a name; otherwise raises BadName."""
    fault = name_fault(value)
    if fault is not None:
        raise BadName(fault)
    return value


def is_inside(low, label, high):
    """Whether a label lies strictly between two others, None for no bound."""
    return (low is None or low < label) and (high is None or high > label)


def gap_of(labels, label):
    """The neighbours of a label among ascending labels of which it is none."""
    low = high = None
    for other in labels:
        if other == label:
            raise Refused(label)
        if other < label:
            low = other
        elif high is None:
            high = other
    return (low, high)


def joined_name(target, rest):
    """The name with the labels of both, None if they are too many."""
    if len(target) + len(rest) > NAME_LABELS:
        return None
    return target + rest
