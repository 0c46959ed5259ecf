"""Names, promises and questions as texts."""

from allbids.bids import spaces_end, word_at
from allbids.errors import BadText
from allbids.ratios import digit_at, number_end, unsigned_end, value_of

LETTERS = "abcdefghijklmnopqrstuvwxyzABCDEFGHIJKLMNOPQRSTUVWXYZ"
MOST_SIGNS = 12
NO_NAMES = ("is", "a", "buyer", "alike", "never", "below", "clears", "for", "list", "at", "wants", "least")


def is_name(value):
    """Whether any value is a name of items."""
    if not isinstance(value, str):
        return False
    try:
        return name_end(value, 0) == len(value)
    except BadText:
        return False


def names_in(text):
    """All names of items in a text that is known to be a promise or a question: no other word of it is one."""
    return [word for word in text.split(" ") if is_name(word)]


def renamed(text, name, new):
    """A promise with a new name of an item, all else as it was."""
    return " ".join([new if word == name else word for word in text.split(" ")])


def promise_of(kinds, text):
    """What a promise says: ("is", A), ("alike", A, B), ("never", A, B) or ("clears", prices, supply, names)."""
    at = start_of(text)
    if digit_at(text, at):
        return clears_of(kinds, text, at)
    end = name_end(text, at)
    one = text[at:end]
    at = word_at(text, end)
    end = word_end(text, at, ("is", "alike", "never"))
    word = text[at:end]
    if word == "is":
        end = words_end(text, end, ("a", "buyer"))
        check_end(text, end)
        return (word, one)
    if word == "never":
        end = words_end(text, end, ("below",))
    at = word_at(text, end)
    end = name_end(text, at)
    check_end(text, end)
    return (word, one, text[at:end])


def clears_of(kinds, text, at):
    """What a promise says that begins with prices at an index."""
    prices, end = prices_in(kinds, text, at)
    supply, end = supply_in(kinds, text, word_at(text, words_end(text, end, ("clears",))))
    return ("clears", prices, supply, last_names(text, words_end(text, end, ("for",))))


def question_of(kinds, text):
    """What a question says: ("at", A, prices), ("wants", A, supply) or ("least", supply, names)."""
    start = start_of(text)
    if text[start:start + 5] == "least" and not name_goes_on(text, start + 5):
        supply, end = supply_in(kinds, text, word_at(text, start + 5))
        return ("least", supply, last_names(text, words_end(text, end, ("for",))))
    end = name_end(text, start)
    at = word_at(text, end)
    behind = word_end(text, at, ("at", "wants"))
    word = text[at:behind]
    if word == "at":
        row, last = prices_in(kinds, text, word_at(text, behind))
    else:
        row, last = supply_in(kinds, text, word_at(text, behind))
    check_end(text, last)
    return (word, text[start:end], row)


def start_of(text):
    """The index of the first sign of a text that is no space; BadText for what is no string."""
    if not isinstance(text, str):
        raise BadText(0)
    return spaces_end(text, 0)


def check_end(text, end):
    """BadText if more than spaces stand from an index on."""
    at = spaces_end(text, end)
    if at < len(text):
        raise BadText(at + 1)


def letter_at(text, at):
    """Whether a letter a to z or A to Z stands at this index of a text."""
    return at < len(text) and text[at] in LETTERS


def name_goes_on(text, at):
    """Whether a letter or a digit stands at this index of a text."""
    return letter_at(text, at) or digit_at(text, at)


def name_end(text, at):
    """The index behind the name that begins at an index; BadText where none does. A word that is no name may go on
    to be one, so it is wrong at its end."""
    if not letter_at(text, at):
        raise BadText(at + 1)
    end = at + 1
    while end < at + MOST_SIGNS and name_goes_on(text, end):
        end += 1
    if text[at:end] in NO_NAMES:
        raise BadText(end + 1)
    return end


def last_names(text, end):
    """All names, one at least, from an index on up to the end of a text."""
    names = []
    while not names or spaces_end(text, end) < len(text):
        at = word_at(text, end)
        end = name_end(text, at)
        names.append(text[at:end])
    return tuple(names)


def word_end(text, at, words):
    """The index behind one of some words, none of which begins like another whole one, that stands at an index;
    BadText where none goes on as the text does."""
    longest = 0
    for word in words:
        many = shared_signs(text[at:], word)
        if many == len(word):
            return at + many
        longest = max(longest, many)
    raise BadText(at + longest + 1)


def shared_signs(text, word):
    """With how many signs of a word a text begins."""
    many = 0
    while many < len(word) and text[many:many + 1] == word[many]:
        many += 1
    return many


def words_end(text, end, words):
    """The index behind some words, one after the other, each behind spaces."""
    for word in words:
        end = word_end(text, word_at(text, end), (word,))
    return end


def prices_in(kinds, text, at):
    """The prices that begin at an index, and the index behind them."""
    prices = []
    for kind in range(kinds):
        start = at if kind == 0 else comma_end(text, at)
        at = unsigned_end(text, start)
        prices.append(value_of(text[start:at]))
    return tuple(prices), at


def supply_in(kinds, text, at):
    """The supply that begins at an index, and the index behind it."""
    supply = []
    for kind in range(kinds):
        start = at if kind == 0 else comma_end(text, at)
        at = number_end(text, start)
        supply.append(int(text[start:at]))
    return tuple(supply), at


def comma_end(text, at):
    """The index behind the comma that stands at an index; BadText if none does."""
    if text[at:at + 1] != ",":
        raise BadText(at + 1)
    return at + 1
