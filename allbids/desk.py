"""A desk that keeps lists under names, and promises about them."""

from allbids.bids import check_kinds
from allbids.errors import BadName, NoName, NothingToRedo, NothingToUndo, TakenName
from allbids.items import items_of, items_text
from allbids.spoken import is_name, names_in, renamed
from allbids.vows import answer_to, check_vows, vow_of, witness_of


class State:
    """What stands at a desk at one time: lists, pairs (name, list), and promises, the texts vows; the state ahead of
    the last edit that stands, the state that was undone last, and the state around the attempt or trial that is
    going on, each None if there is none. States never change, so each of them can be taken up again."""

    def __init__(self, lists, vows, earlier, undone, outer):
        self.lists = tuple(lists)
        self.vows = tuple(vows)
        self.earlier = earlier
        self.undone = undone
        self.outer = outer


class Desk:
    """Lists under names, and promises that each edit keeps."""

    def __init__(self, kinds, text=""):
        check_kinds(kinds)
        self.kinds = kinds
        self.state = State(items_of(kinds, text), (), None, None, None)

    def __enter__(self):
        self.state = begun(self.state)
        return self

    def __exit__(self, kind, value, trace):
        self.state = self.state.outer

    def put(self, text):
        """Puts the items of a text in the place of those with their names, or behind the last one."""
        lists = list(self.state.lists)
        for name, bids in items_of(self.kinds, text):
            lists = with_item(lists, name, bids)
        self.edit(lists, self.state.vows)

    def drop(self, name):
        """Takes an item away, and releases all promises that name it."""
        check_item(self.state, name)
        lists = [item for item in self.state.lists if item[0] != name]
        self.edit(lists, [promise for promise in self.state.vows if name not in names_in(promise)])

    def rename(self, name, new):
        """Gives an item a new name, in all promises too."""
        if not is_name(new):
            raise BadName(new)
        check_item(self.state, name)
        if new in self.names():
            raise TakenName(new)
        lists = [(new if old == name else old, bids) for old, bids in self.state.lists]
        self.edit(lists, [renamed(promise, name, new) for promise in self.state.vows])

    def keep(self, promise):
        """Makes a promise."""
        vow_of(self.kinds, self.state.lists, promise)
        vows = self.state.vows
        if promise not in vows:
            vows = vows + (promise,)
        self.edit(self.state.lists, vows)

    def release(self, promise):
        """Takes a promise away."""
        if not isinstance(promise, str) or promise not in self.state.vows:
            raise NoName(promise)
        self.edit(self.state.lists, [made for made in self.state.vows if made != promise])

    def attempt(self, action):
        """Calls a function with the desk, as one edit; what it returns."""
        before = self.state
        behind = before
        self.state = begun(before)
        try:
            returned = action(self)
            behind = edited(self.kinds, before, self.state.lists, self.state.vows)
        finally:
            self.state = behind
        return returned

    def trial(self, action):
        """Calls a function with the desk, and takes back all that it has done there; what it returns."""
        before = self.state
        self.state = begun(before)
        try:
            return action(self)
        finally:
            self.state = before

    def undo(self):
        """Takes back the last edit that stands."""
        earlier = self.state.earlier
        if earlier is None:
            raise NothingToUndo()
        self.state = State(earlier.lists, earlier.vows, earlier.earlier, self.state, earlier.outer)

    def redo(self):
        """Does again the edit that was taken back last."""
        undone = self.state.undone
        if undone is None:
            raise NothingToRedo()
        self.state = State(undone.lists, undone.vows, self.state, undone.undone, undone.outer)

    def lines(self):
        """The text of all items."""
        return items_text(self.state.lists)

    def names(self):
        """The names of all items."""
        return tuple([name for name, _ in self.state.lists])

    def promises(self):
        """All promises that are made."""
        return self.state.vows

    def get(self, name):
        """The list of an item."""
        check_item(self.state, name)
        return dict(self.state.lists)[name]

    def kept(self, promise):
        """Whether any promise is kept now, and the witness if it is not."""
        witness = witness_of(vow_of(self.kinds, self.state.lists, promise))
        return (witness is None, witness)

    def broken(self):
        """All promises made that are not kept, each with its witness."""
        pairs = [(promise, self.kept(promise)[1]) for promise in self.state.vows]
        return tuple([pair for pair in pairs if pair[1] is not None])

    def ask(self, question):
        """The answer to a question, a text."""
        return answer_to(self.kinds, self.state.lists, question)

    def edit(self, lists, vows):
        """Makes an edit, or raises what bars it."""
        self.state = edited(self.kinds, self.state, lists, vows)


def begun(state):
    """The first state of an attempt or trial: nothing can be undone or done again there."""
    return State(state.lists, state.vows, None, None, state)


def edited(kinds, before, lists, vows):
    """The state behind an edit; outside of attempts and trials all promises have to be kept there."""
    if before.outer is None:
        check_vows(kinds, lists, vows)
    return State(lists, vows, before, None, before.outer)


def check_item(state, name):
    """NoName for any value that is no name of an item."""
    if not isinstance(name, str) or name not in [item[0] for item in state.lists]:
        raise NoName(name)


def with_item(lists, name, bids):
    """Items with a list in the place of the one with its name, or behind the last one."""
    if name in [item[0] for item in lists]:
        return [(old, bids if old == name else one) for old, one in lists]
    return lists + [(name, bids)]
