"""Ratios and their texts."""

from math import gcd

from allbids.errors import BadNumber, BadText

DIGITS = "0123456789"
MOST_DIGITS = 20


def is_whole(value):
    """Whether any value is an integer; True and False are none."""
    return isinstance(value, int) and not isinstance(value, bool)


def is_ratio(value):
    """Whether any value is an integer, or a tuple or list of two with the second above 0."""
    if is_whole(value):
        return True
    if not isinstance(value, (tuple, list)) or len(value) != 2:
        return False
    return is_whole(value[0]) and is_whole(value[1]) and value[1] > 0


def lowest(top, bottom):
    """The pair that tells top over bottom in lowest terms; bottom is above 0."""
    shared = gcd(top, bottom)
    return (top // shared, bottom // shared)


def told(value, what):
    """A ratio as a pair in lowest terms."""
    if not is_ratio(value):
        raise BadNumber(what, value)
    if isinstance(value, int):
        return (value, 1)
    return lowest(value[0], value[1])


def plus(one, other):
    """The sum of two ratios."""
    first, second = told(one, "ratio"), told(other, "ratio")
    return lowest(first[0] * second[1] + second[0] * first[1], first[1] * second[1])


def minus(one, other):
    """The first ratio less the second one."""
    first, second = told(one, "ratio"), told(other, "ratio")
    return lowest(first[0] * second[1] - second[0] * first[1], first[1] * second[1])


def times(one, other):
    """The product of two ratios."""
    first, second = told(one, "ratio"), told(other, "ratio")
    return lowest(first[0] * second[0], first[1] * second[1])


def less(one, other):
    """Whether the first ratio is below the second one."""
    first, second = told(one, "ratio"), told(other, "ratio")
    return first[0] * second[1] < second[0] * first[1]


def whole_text(number):
    """The digits of an integer, in parts, as Python does not turn all great integers into text at once."""
    if number < 0:
        return "-" + whole_text(-number)
    parts = []
    while number >= 10 ** 60:
        number, part = divmod(number, 10 ** 60)
        parts.append(str(part).zfill(60))
    parts.append(str(number))
    return "".join(parts[::-1])


def ratio_text(value):
    """The text of a ratio in lowest terms."""
    top, bottom = told(value, "ratio")
    if bottom == 1:
        return whole_text(top)
    return whole_text(top) + "/" + whole_text(bottom)


def digit_at(text, at):
    """Whether a digit 0 to 9 stands at this index of a text."""
    return at < len(text) and text[at] in DIGITS


def number_end(text, at):
    """The index behind the NUMBER that begins at an index; BadText where none does."""
    if not digit_at(text, at):
        raise BadText(at + 1)
    if text[at] == "0":
        return at + 1
    end = at + 1
    while end < at + MOST_DIGITS and digit_at(text, end):
        end += 1
    return end


def behind_sign(text, at):
    """The index behind a sign - that stands at an index; the index itself if none does."""
    if text[at:at + 1] == "-":
        return at + 1
    return at


def unsigned_end(text, at):
    """The index behind the text of a ratio without sign that begins at an index; BadText where none does."""
    end = number_end(text, at)
    if text[end:end + 1] != "/":
        return end
    if text[end + 1:end + 2] == "0":
        raise BadText(end + 2)
    return number_end(text, end + 1)


def value_of(text):
    """The ratio that a text tells, which is known to be the text of a ratio."""
    top, _, bottom = text.partition("/")
    if bottom == "":
        return (int(top), 1)
    return lowest(int(top), int(bottom))


def ratio_of(text):
    """The ratio that a text tells."""
    if not isinstance(text, str):
        raise BadText(0)
    end = unsigned_end(text, behind_sign(text, 0))
    if end < len(text):
        raise BadText(end + 1)
    return value_of(text)
