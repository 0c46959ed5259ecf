"""Texts of several lists under names."""

from allbids.bids import Bids, bids_text, row_of, spaces_end, word_at
from allbids.errors import BadLine, BadText
from allbids.spoken import check_end, name_end, name_goes_on, word_end


def items_of(kinds, text):
    """The pairs (name, list) that a text tells, in order."""
    if not isinstance(text, str):
        raise BadLine(0, 0)
    found = []
    for at, line in enumerate(text.split("\n")):
        found = with_line(kinds, found, line, at + 1)
    return [(name, Bids(kinds, rows)) for name, rows in found]


def items_text(lists):
    """The text of pairs (name, list)."""
    return "".join(["list " + name + "\n" + bids_text(bids) for name, bids in lists])


def with_line(kinds, found, line, place):
    """Pairs (name, bids) with what the line at a place of a text adds to them."""
    try:
        name = name_of(found, line)
        if name is not None:
            return found + [(name, [])]
        rows = row_of(kinds, line)
    except BadText as wrong:
        raise BadLine(place, wrong.column)
    if not rows:
        return found
    name, ahead = found[-1]
    return found[:-1] + [(name, ahead + rows)]


def name_of(found, line):
    """The name of the item that begins with a line; None if the line is one of bids, or of spaces alone."""
    start = spaces_end(line, 0)
    if line[start:start + 1] != "l":
        # Ahead of the first item no bid is right.
        if not found:
            check_end(line, start)
        return None
    at = word_at(line, word_end(line, start, ("list",)))
    end = name_end(line, at)
    taken = [name for name, _ in found]
    if line[at:end] in taken and not name_goes_on(line, end):
        raise BadText(at + 1)
    check_end(line, end)
    return line[at:end]
