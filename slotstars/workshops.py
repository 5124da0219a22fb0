"""Workshops: windings under names, wishes that always hold, changes that can be taken back, and trials."""

from slotstars.errors import (
    Broken, InUse, InvalidIndex, InvalidName, InvalidWish, NothingToUndo, UnknownName,
)
from slotstars.rows import check_winding
from slotstars.wholes import is_within
from slotstars.wishes import holds, is_name, is_wish, names_in


class State:
    """The windings, by their names, and the wishes of a workshop at one time: neither is changed."""
    def __init__(self, windings, wished):
        self.windings = windings
        self.wished = wished


class Workshop:
    """Keeps windings and wishes; a change after which a wish would not hold is none."""
    def __init__(self):
        self.state = State({}, ())
        self.past = []

    def put(self, name, winding):
        """Puts a winding under a name, or in the place of the one that is there."""
        if not is_name(name):
            raise InvalidName(name)
        check_winding(winding)
        windings = dict(self.state.windings)
        windings[name] = winding
        for index, wish in enumerate(self.state.wished):
            if name in names_in(wish) and not holds(wish, windings):
                raise Broken(index)
        self._change(windings, self.state.wished)

    def drop(self, name):
        """Takes a winding away that no wish names."""
        self._check_known(name)
        for index, wish in enumerate(self.state.wished):
            if name in names_in(wish):
                raise InUse(index)
        windings = {other: winding for other, winding in self.state.windings.items() if other != name}
        self._change(windings, self.state.wished)

    def wish(self, wish):
        """Adds a wish, behind all others."""
        if not is_wish(wish):
            raise InvalidWish(wish)
        for name in names_in(wish):
            self._check_known(name)
        if not holds(wish, self.state.windings):
            raise Broken(len(self.state.wished))
        self._change(self.state.windings, self.state.wished + (wish,))

    def lift(self, index):
        """Takes the wish with the index away."""
        wished = self.state.wished
        if not is_within(index, 0, len(wished) - 1):
            raise InvalidIndex(index)
        self._change(self.state.windings, wished[:index] + wished[index + 1:])

    def named(self, name):
        """The winding under the name."""
        self._check_known(name)
        return self.state.windings[name]

    def undo(self):
        """Takes the last change back."""
        if len(self.past) == 0:
            raise NothingToUndo()
        self.state = self.past.pop()

    def trial(self):
        """What a `with` statement needs, to take back all changes of its block if this ends with an exception."""
        return Trial(self)

    def tried(self, action):
        """What the action returns, called with the workshop within a trial."""
        with self.trial() as shop:
            return action(shop)

    def _check_known(self, name):
        if name not in self:
            raise UnknownName(name)

    def _change(self, windings, wished):
        self.past.append(self.state)
        self.state = State(windings, wished)

    def __len__(self):
        return len(self.past)

    def __bool__(self):
        return True

    def __contains__(self, name):
        return isinstance(name, str) and name in self.state.windings

    @property
    def names(self):
        """The ascending tuple of the names."""
        return tuple(sorted(list(self.state.windings)))

    @property
    def wishes(self):
        """The tuple of the wishes, as they were passed."""
        return self.state.wished


class Saved:
    """A workshop as it was when a block began, and what was saved for the blocks around it."""
    def __init__(self, state, past, around):
        self.state = state
        self.past = past
        self.around = around


class Trial:
    """For any number of blocks, also within one another: those that end with an exception leave no change."""
    def __init__(self, shop):
        self.shop = shop
        self.saved = None

    def __enter__(self):
        self.saved = Saved(self.shop.state, list(self.shop.past), self.saved)
        return self.shop

    def __exit__(self, kind, value, trace):
        if kind is not None:
            self.shop.state = self.saved.state
            self.shop.past = self.saved.past
        self.saved = self.saved.around
