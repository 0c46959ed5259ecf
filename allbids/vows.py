"""What promises and questions say of lists under names, and whether it holds."""

from allbids.errors import NoName, NotKept
from allbids.gains import gain
from allbids.likeness import alike, never_below
from allbids.markets import Market, clearing, least_prices
from allbids.ratios import ratio_text
from allbids.spoken import names_in, promise_of, question_of
from allbids.walls import bent_prices
from allbids.worths import worth


def vow_of(kinds, lists, promise):
    """What a promise says, with lists in the place of names and a market in that of its parts: ("is", list),
    ("alike", list, list), ("never", list, list) or ("clears", market, prices)."""
    said = promise_of(kinds, promise)
    check_names(lists, promise)
    if said[0] == "clears":
        _, prices, supply, names = said
        return ("clears", market_of(lists, names, supply), prices)
    return (said[0],) + tuple([dict(lists)[name] for name in said[1:]])


def witness_of(vow):
    """None if a promise is kept, otherwise what shows that it is not."""
    word, one = vow[0], vow[1]
    if word == "is":
        return bent_prices(one)
    if word == "alike":
        return alike(one, vow[2])
    if word == "never":
        return never_below(one, vow[2])
    return None if clearing(one).has(vow[2]) else least_prices(one)


def check_vows(kinds, lists, promises):
    """NotKept for the first one of promises that is not kept, or the error that it can no longer be asked."""
    for promise in promises:
        witness = witness_of(vow_of(kinds, lists, promise))
        if witness is not None:
            raise NotKept(promise, witness)


def answer_to(kinds, lists, question):
    """The answer to a question, a text."""
    said = question_of(kinds, question)
    check_names(lists, question)
    if said[0] == "least":
        return ",".join([ratio_text(price) for price in least_prices(market_of(lists, said[2], said[1]))])
    bids = dict(lists)[said[1]]
    if said[0] == "at":
        return ratio_text(gain(bids, said[2]))
    return ratio_text(worth(bids, said[2]))


def check_names(lists, text):
    """NoName for the first name in a promise or a question that no list has."""
    names = [name for name, _ in lists]
    for name in names_in(text):
        if name not in names:
            raise NoName(name)


def market_of(lists, names, supply):
    """The market of the lists with these names."""
    return Market([dict(lists)[name] for name in names], supply)
