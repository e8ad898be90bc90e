"""The parts of events as octets: each function puts what it writes behind a list."""

from goodtill.forms import KINDS, PARTS

FOUND = ("value", "page", "nothing", "long", "far")


def write_groups(out, number):
    """A whole number from 0 on, seven bits to an octet, the lowest first."""
    while number > 127:
        out.append(128 + number % 128)
        number = number // 128
    out.append(number)


def write_octet(out, number):
    """A node, or a most."""
    out.append(number)


def write_id(out, event_id):
    """An id."""
    out.append(event_id[0])
    write_groups(out, event_id[1])
    write_groups(out, event_id[2])


def write_term(out, term):
    """A term, or what a start keeps."""
    if term is None or term == ():
        out.append(0)
    else:
        write_id(out, (term[0] + 1, term[1], term[2]))


def write_fraction(out, one):
    """A fraction, its sign in the lowest bit of the first number."""
    n, d = one
    write_groups(out, 2 * n if n >= 0 else -2 * n - 1)
    write_groups(out, d)


def write_label(out, label):
    """A label."""
    out.append(len(label))
    for letter in label:
        out.append(ord(letter) - ord("a"))


def write_name(out, name):
    """A name."""
    out.append(len(name))
    for label in name:
        write_label(out, label)


def write_entry(out, entry):
    """An entry of any form."""
    if entry is None:
        out.append(0)
    elif entry[0] == "value":
        out.append(1)
        write_groups(out, entry[1])
    elif entry[0] == "name":
        out.append(2)
        write_name(out, entry[1])
    else:
        out.append(3)
        out.append(entry[1])
        for label, first in entry[2]:
            out.append(1)
            write_label(out, label)
            write_entry(out, first)
        out.append(0)


def write_answer(out, answer):
    """What a walk ends with, and the names that it followed."""
    found, names = answer
    out.append(FOUND.index(found[0]))
    if found[0] == "value":
        write_groups(out, found[1])
    elif found[0] == "page":
        out.append(found[1])
        write_term(out, found[2])
    out.append(len(names))
    for name in names:
        write_name(out, name)


WRITERS = {
    "kept": write_term,
    "node": write_octet,
    "id": write_id,
    "term": write_term,
    "label": write_label,
    "entry": write_entry,
    "fraction": write_fraction,
    "name": write_name,
    "most": write_octet,
    "answer": write_answer,
}


def write_event(out, event):
    """The form of an event."""
    event_id, reading, deed = event
    write_id(out, event_id)
    write_fraction(out, reading)
    out.append(KINDS.index(deed[0]))
    for part, entry in zip(PARTS[deed[0]], deed[1:]):
        write = WRITERS[part]
        write(out, entry)
