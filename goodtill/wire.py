"""Events as rows of octets: one form for each event, rows with a count, streams without one."""

from goodtill.errors import BadOctets
from goodtill.reading import CutShort, Reader, read_event, read_groups
from goodtill.writing import write_event, write_groups


def encode_event(event):
    """The form of an event."""
    out = []
    write_event(out, event)
    return tuple(out)


def encode_stream(events):
    """The forms of several events one behind another."""
    out = []
    for event in events:
        write_event(out, event)
    return tuple(out)


def pack_events(events):
    """The number of events, then their forms."""
    out = []
    write_groups(out, len(events))
    for event in events:
        write_event(out, event)
    return tuple(out)


def decode_event(octets):
    """The event of which these octets are the form; otherwise raises BadOctets."""
    reader = Reader(octets)
    try:
        event = read_event(reader)
    except CutShort:
        raise BadOctets(len(octets)) from None
    if not reader.is_done():
        raise BadOctets(reader.at)
    return event


def read_counted(reader):
    """As many events as the count ahead of them tells."""
    many = read_groups(reader)
    events = []
    while len(events) < many:
        events.append(read_event(reader))
    return tuple(events)


def unpack_events(octets):
    """The events that were packed to these octets; otherwise raises BadOctets."""
    reader = Reader(octets)
    try:
        events = read_counted(reader)
    except CutShort:
        raise BadOctets(len(octets)) from None
    if not reader.is_done():
        raise BadOctets(reader.at)
    return events


def decode_stream(octets):
    """The events that lie whole in a stream's beginning, and the octets behind them."""
    reader = Reader(octets)
    events, done = [], 0
    try:
        while not reader.is_done():
            events.append(read_event(reader))
            done = reader.at
    except CutShort:
        pass
    return (tuple(events), tuple(octets[done:]))
