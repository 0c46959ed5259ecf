"""Lists of bids: their plain lists, sums and texts."""

from allbids.checks import are_prices, check_same_kinds, is_row, told_row
from allbids.errors import BadLine, BadNumber, BadRow, BadText
from allbids.ratios import behind_sign, is_whole, number_end, ratio_text, unsigned_end, value_of, whole_text
from allbids.scales import ascending


class Bids:
    """A list of bids for one, two or three kinds, kept as its plain list."""

    def __init__(self, kinds, rows):
        check_kinds(kinds)
        self.kinds = kinds
        self.rows = plain_rows(kinds, rows)

    def __eq__(self, other):
        return isinstance(other, Bids) and self.kinds == other.kinds and self.rows == other.rows

    def __add__(self, other):
        if not isinstance(other, Bids):
            return NotImplemented
        check_same_kinds(self, other)
        return Bids(self.kinds, self.rows + other.rows)

    def __neg__(self):
        return Bids(self.kinds, weighed(self.rows, -1))

    def __mul__(self, other):
        if not is_whole(other):
            return NotImplemented
        return Bids(self.kinds, weighed(self.rows, other))

    def __rmul__(self, other):
        if not is_whole(other):
            return NotImplemented
        return Bids(self.kinds, weighed(self.rows, other))


def check_kinds(kinds):
    """BadNumber for what is not the integer 1, 2 or 3."""
    if not is_whole(kinds) or not 1 <= kinds <= 3:
        raise BadNumber("kinds", kinds)


def is_bid(row, kinds):
    """Whether any value is a pair of a weight and of numbers, one for each kind."""
    return is_row(row, 2) and is_whole(row[0]) and are_prices(row[1], kinds)


def plain_rows(kinds, rows):
    """The plain list of rows that are any values; BadRow for the first one that is no bid."""
    weights = {}
    for row in rows:
        if not is_bid(row, kinds):
            raise BadRow(row)
        numbers = told_row(row[1])
        weights[numbers] = weights.get(numbers, 0) + row[0]
    kept = [numbers for numbers in weights if weights[numbers] != 0 and wants_some(numbers)]
    return tuple([(weights[numbers], numbers) for numbers in ascending(kept)])


def wants_some(numbers):
    """Whether some number of a bid is not 0."""
    return any([number[0] != 0 for number in numbers])


def weighed(rows, factor):
    """Bids with all weights times a factor."""
    return [(weight * factor, numbers) for weight, numbers in rows]


def bids_text(bids):
    """The text of a list: each bid of the plain list in a line of its own."""
    return "".join([bid_text(weight, numbers) + "\n" for weight, numbers in bids.rows])


def bid_text(weight, numbers):
    """The line of a bid, without its line end."""
    return " ".join([whole_text(weight), "x"] + [ratio_text(number) for number in numbers])


def bids_of(kinds, text):
    """The list that a text tells."""
    check_kinds(kinds)
    if not isinstance(text, str):
        raise BadLine(0, 0)
    rows = []
    for at, line in enumerate(text.split("\n")):
        rows.extend(row_in(kinds, line, at + 1))
    return Bids(kinds, rows)


def row_in(kinds, line, place):
    """A list of the bid of the line at a place of a text, empty if the line means nothing."""
    try:
        return row_of(kinds, line)
    except BadText as wrong:
        raise BadLine(place, wrong.column)


def row_of(kinds, line):
    """A list of the bid that a line tells, empty for a line of spaces; BadText at what is wrong."""
    at = spaces_end(line, 0)
    if at == len(line):
        return []
    end = number_end(line, behind_sign(line, at))
    weight = int(line[at:end])
    at = word_at(line, end)
    if line[at] != "x":
        raise BadText(at + 1)
    end = at + 1
    numbers = []
    for _ in range(kinds):
        at = word_at(line, end)
        end = unsigned_end(line, at)
        numbers.append(value_of(line[at:end]))
    end = spaces_end(line, end)
    if end < len(line):
        raise BadText(end + 1)
    return [(weight, numbers)]


def spaces_end(line, at):
    """The index behind all spaces that stand from an index on."""
    while line[at:at + 1] == " ":
        at += 1
    return at


def word_at(line, end):
    """The index of the word behind an index at which a word ends; BadText without a space or a word."""
    at = spaces_end(line, end)
    if at == end or at == len(line):
        raise BadText(at + 1)
    return at


def wants(bids):
    """The sum of all weights of the plain list."""
    return sum([weight for weight, _ in bids.rows])
