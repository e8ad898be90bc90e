"""Events read from octets, each octet refused as soon as no event's form goes on with it."""

from math import gcd

from goodtill.errors import BadOctets
from goodtill.forms import FIRST_ENTRIES, KINDS, LAST_NODE, MOST_NAMES, PARTS
from goodtill.labels import LABEL_LETTERS, NAME_LABELS
from goodtill.rates import is_whole

LETTERS = "abcdefghijklmnopqrstuvwxyz"
LAST_LABEL = "zzzzzzzz"


class CutShort(Exception):
    """The octets end where a form goes on."""


class Reader:
    """A row of octets, and how many of them have been read."""

    def __init__(self, octets):
        if not isinstance(octets, (list, tuple)):
            raise BadOctets(-1)
        self.octets = octets
        self.at = 0

    def is_done(self):
        """Whether all octets have been read."""
        return self.at == len(self.octets)

    def take(self, low, high):
        """The next octet, which lies from low to high."""
        if self.is_done():
            raise CutShort()
        octet = self.octets[self.at]
        if not is_whole(octet) or octet < low or octet > high:
            raise BadOctets(self.at)
        self.at += 1
        return octet

    def refuse(self):
        """Tells that no form goes on with the octet that was read last."""
        raise BadOctets(self.at - 1)


def groups_behind(reader, first):
    """The number in groups that begins with an octet already read."""
    number, unit, octet = first & 127, 128, first
    while octet > 127:
        # A last group of nought would be a second way to write the same number.
        octet = reader.take(1, 255)
        number = number + (octet & 127) * unit
        unit = unit * 128
    return number


def read_groups(reader):
    """A whole number in groups."""
    return groups_behind(reader, reader.take(0, 255))


def read_node(reader):
    """A node."""
    return reader.take(0, LAST_NODE)


def read_most(reader):
    """How many names a walk follows at most."""
    return reader.take(0, MOST_NAMES)


def read_id(reader):
    """An id."""
    node = read_node(reader)
    life = read_groups(reader)
    return (node, life, read_groups(reader))


def read_term(reader):
    """A term."""
    first = reader.take(0, LAST_NODE + 1)
    if first == 0:
        return ()
    life = read_groups(reader)
    return (first - 1, life, read_groups(reader))


def read_kept(reader):
    """What a start keeps."""
    term = read_term(reader)
    return None if term == () else term


def read_fraction_octets(reader):
    """A fraction in lowest terms."""
    sign = read_groups(reader)
    n = -(sign + 1) // 2 if sign & 1 else sign // 2
    first = reader.take(1, 255)
    # Higher groups can mend every common divisor but 2, and nought goes with 1 alone.
    if (n == 0 and first != 1) or (n & 1 == 0 and first > 127 and first & 1 == 0):
        reader.refuse()
    d = groups_behind(reader, first)
    if gcd(n, d) != 1:
        reader.refuse()
    return (n, d)


def read_label_above(reader, ahead):
    """A label that comes after another one (after none: the empty string)."""
    letters = reader.take(1, LABEL_LETTERS)
    label = ""
    # The greatest label that begins so tells whether any does.
    if "z" * letters <= ahead:
        reader.refuse()
    while len(label) < letters:
        label = label + LETTERS[reader.take(0, 25)]
        if label + "z" * (letters - len(label)) <= ahead:
            reader.refuse()
    return label


def read_label(reader):
    """A label."""
    return read_label_above(reader, "")


def read_name(reader):
    """A name."""
    many = reader.take(1, NAME_LABELS)
    labels = []
    while len(labels) < many:
        labels.append(read_label(reader))
    return tuple(labels)


def plain_entry(reader, kind):
    """The value or the name of which the kind was read."""
    if kind == 1:
        return ("value", read_groups(reader))
    return ("name", read_name(reader))


def read_first_entries(reader):
    """The first entries of a page, up to the octet that ends them."""
    rows, ahead = [], ""
    while reader.take(0, 1) == 1:
        if len(rows) == FIRST_ENTRIES or ahead == LAST_LABEL:
            reader.refuse()
        ahead = read_label_above(reader, ahead)
        rows.append((ahead, plain_entry(reader, reader.take(1, 2))))
    return tuple(rows)


def read_entry(reader):
    """An entry."""
    kind = reader.take(0, 3)
    if kind == 0:
        return None
    if kind == 3:
        house = read_node(reader)
        return ("page", house, read_first_entries(reader))
    return plain_entry(reader, kind)


def read_found(reader):
    """What a walk ends with."""
    kind = reader.take(0, 4)
    if kind == 0:
        return ("value", read_groups(reader))
    if kind == 1:
        house = read_node(reader)
        return ("page", house, read_term(reader))
    return (("nothing",), ("long",), ("far",))[kind - 2]


def read_answer(reader):
    """An answer."""
    found = read_found(reader)
    many = reader.take(0, MOST_NAMES + 1)
    names = []
    while len(names) < many:
        names.append(read_name(reader))
    return (found, tuple(names))


READERS = {
    "kept": read_kept,
    "node": read_node,
    "id": read_id,
    "term": read_term,
    "label": read_label,
    "entry": read_entry,
    "fraction": read_fraction_octets,
    "name": read_name,
    "most": read_most,
    "answer": read_answer,
}


def read_event(reader):
    """An event."""
    event_id = read_id(reader)
    reading = read_fraction_octets(reader)
    kind = KINDS[reader.take(0, len(KINDS) - 1)]
    deed = [kind]
    for part in PARTS[kind]:
        read = READERS[part]
        deed.append(read(reader))
    return (event_id, reading, tuple(deed))
