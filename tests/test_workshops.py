"""Workshops beside a plain model: windings, wishes, changes, undoing, trials: [45]."""

import inspect
import random
import unittest

from makers import BIG, any_phase
from slotstars import alike, balance, copies, errors, harmonics, workshops
from slotstars.workshops import Workshop
from wrong_values import KINDS, PLAIN, WRONG_RATES, Thing

SIX = ((1, 0, 0, -1, 0, 0), (0, 0, 1, 0, 0, -1), (0, -1, 0, 0, 1, 0))
TURNED = SIX[1:] + SIX[:1]
HALF = ((1, -1),)
WIDE = tuple(phase * 2 for phase in SIX)
WINDINGS = (SIX, TURNED, SIX[::-1], SIX[:1], SIX[:2], HALF, WIDE, ((0,) * 6,) * 3, ((0, 0),), (SIX[0],) * 3,
            ((2, -1, 0, -1, 0, 0), (1, -1, 1, 0, 0, -1), (1, -2, 0, 0, 1, 0)))
NAMES = ("a", "b", "cc", "z" * 12)
NO_NAMES = tuple(value for value in PLAIN if not isinstance(value, str)) + (
    "", 0, "A", "a1", "a b", " a", "a ", "a" * 13, "a_", "a-b", "Ab", "1", ("a",), b"a", "a\n", "{", "`",
)
TOLD = {
    "there": [(0, 1), (1, -1), (5, 0), (2, 2), (0, BIG)],
    "gone": [(0, 1), (1, 2), (5, 0), (2, 3), (0, 6 * BIG), (0, 2)],
    "balanced": [(1, (3, 1)), (-1, (3, 2)), (3, (1, 0)), (1, (2, 1)), (2, (6, 5))],
    "step": [((2, 1),), ((5, -1),), ((0, 1),), ((1, -1),), ((59, 1),), ((0, -1),)],
    "full": [(1,), (2,), (60,)],
    "lacks": [((),), ((1,),), ((1, 3),), ((5, 59, 4),), ((6,),), ((60, 2),)],
    "alike": [(name, kind) for name in NAMES[:3] for kind in ("any", "closed", ("even", (3, 1)), ("even", (1, 0)))],
}
BAD_WISHES = PLAIN + (
    0, (), ("there",), ("there", "a"), ("there", "a", 0), ("there", "a", 0, 1, 2), ["there", "a", 0, 1],
    ("There", "a", 0, 1), (b"there", "a", 0, 1), ("there", "a", 6, 1), ("there", "a", -1, 1), ("gone", "a", True, 1),
    ("gone", "a", 0, True), ("gone", "a", 0, None), ("gone", "a", None, 0), ("there", "a", "0", 1), ("is", "a", 0, 1),
    ([], "a", 0, 1), ({}, "a", 0, 1), (["there"], "a", 0, 1), ("gone", "a", 0, (1,)), ("gone", "a", 0), ("gone", "a", 0, 1, 1), (None, "a", 0, 1), (Thing(), "a", 0, 1),
    (("there",), "a", 0, 1), ("balanced", "a", 1), ("balanced", "a", 1, (3, 1), 1), ("balanced", "a", True, (3, 1)),
    ("balanced", "a", "1", (3, 1)), ("step", "a"), ("step", "a", 1, 1), ("step", "a", (60, 1)), ("step", "a", (-1, 1)),
    ("step", "a", (0, 0)), ("step", "a", (0, 2)), ("step", "a", (True, 1)), ("step", "a", (1, True)), ("step", "a", 1),
    ("step", "a", [0, 1]), ("step", "a", (0, 1, 1)), ("step", "a", (0,)), ("step", "a", None), ("full", "a"),
    ("full", "a", 0), ("full", "a", 61), ("full", "a", True), ("full", "a", None), ("full", "a", 1, 1),
    ("full", "a", (1,)), ("full", "a", -1), ("lacks", "a"), ("lacks", "a", 1), ("lacks", "a", [1]), ("lacks", "a", (0,)),
    ("lacks", "a", (61,)), ("lacks", "a", (1, 1)), ("lacks", "a", (1, True)), ("lacks", "a", (2, None)),
    ("lacks", "a", ("1",)), ("lacks", "a", (-1,)), ("lacks", "a", (1,), ()), ("lacks", "a", ((1,),)),
    ("lacks", "a", (1, 2, 3, 1)), ("lacks", "a", None), ("lacks", "a", "12"), ("alike", "a"), ("alike", "a", "b"),
    ("alike", "a", "any"), ("alike", "a", "any", "b"), ("alike", "a", "b", "open"), ("alike", "a", "b", ("even", (3, 0))),
    ("alike", "a", "b", None), ("alike", "a", "b", "any", 1), ("alike", "a", "b", ("any",)), ("alike", "a", "b", 0),
) + tuple(("there", name, 0, 1) for name in NO_NAMES) + tuple(("alike", "a", name, "any") for name in NO_NAMES) \
    + tuple(("alike", name, "a", "any") for name in NO_NAMES) + tuple(("balanced", "a", 1, rate) for rate in WRONG_RATES)


def is_so(wish, windings):
    """Whether a wish holds, told by the modules of its words."""
    word, name, *told = wish
    winding = windings[name]
    if word in ("there", "gone"):
        index, harmonic = told
        return index < len(winding) and harmonics.is_there(winding[index], harmonic) == (word == "there")
    if word == "balanced":
        return balance.rate_at(winding, told[0]) == told[1]
    if word == "step":
        return told[0] in copies.steps_of(winding)
    if word == "full":
        return copies.is_full(winding, told[0])
    if word == "lacks":
        return not any(order in harmonics.orders_there(phase) for phase in winding for order in told[0])
    other = windings[told[0]]
    same = len(winding) == len(other) and len(winding[0]) == len(other[0])
    return same and alike.are_alike(winding, other, told[1])


def names_of(wish):
    """The names in a wish."""
    return wish[1:3] if wish[0] == "alike" else wish[1:2]


class Model:
    """A workshop as plainly as can be: a list of all states."""

    def __init__(self):
        self.states = [({}, ())]

    def change(self, windings, wishes):
        self.states.append((windings, wishes))

    def put(self, name, winding):
        windings, wishes = self.states[-1]
        windings = {**windings, name: winding}
        for index, wish in enumerate(wishes):
            if not is_so(wish, windings):
                return errors.Broken, index
        self.change(windings, wishes)
        return None

    def drop(self, name):
        windings, wishes = self.states[-1]
        if name not in windings:
            return errors.UnknownName, name
        for index, wish in enumerate(wishes):
            if name in names_of(wish):
                return errors.InUse, index
        self.change({key: value for key, value in windings.items() if key != name}, wishes)
        return None

    def wish(self, wish):
        windings, wishes = self.states[-1]
        for name in names_of(wish):
            if name not in windings:
                return errors.UnknownName, name
        if not is_so(wish, windings):
            return errors.Broken, len(wishes)
        self.change(windings, wishes + (wish,))
        return None

    def lift(self, index):
        windings, wishes = self.states[-1]
        if not 0 <= index < len(wishes):
            return errors.InvalidIndex, index
        self.change(windings, wishes[:index] + wishes[index + 1:])
        return None

    def undo(self):
        if len(self.states) == 1:
            return errors.NothingToUndo, None
        self.states.pop()
        return None


def some_wish(chance):
    """Any wish."""
    word = chance.choice(sorted(TOLD))
    return (word, chance.choice(NAMES[:3]), *chance.choice(TOLD[word]))


def some_change(chance):
    """The name of a method and its arguments."""
    word = chance.choice(("put", "put", "put", "drop", "wish", "wish", "wish", "wish", "lift", "undo"))
    if word == "put":
        return word, (chance.choice(NAMES), chance.choice(WINDINGS))
    if word == "drop":
        return word, (chance.choice(NAMES),)
    if word == "wish":
        return word, (some_wish(chance),)
    return word, ((chance.randint(-1, 4),) if word == "lift" else ())


class WorkshopTest(unittest.TestCase):
    def assert_same(self, shop, model):
        windings, wishes = model.states[-1]
        self.assertEqual(shop.names, tuple(sorted(windings)))
        self.assertEqual(shop.wishes, wishes)
        self.assertEqual(len(shop), len(model.states) - 1)
        self.assertIs(bool(shop), True)
        for name in NAMES + ("none",):
            self.assertIs(name in shop, name in windings)
            if name in windings:
                self.assertIs(shop.named(name), windings[name])
        for wish in shop.wishes:
            self.assertTrue(is_so(wish, windings))

    def assert_raises_as(self, call, error, kept):
        with self.assertRaises(error) as held:
            call()
        self.assertIs(held.exception.__class__, error)
        for attribute in vars(held.exception):
            if attribute == "index":
                self.assertEqual(held.exception.index, kept)
            else:
                self.assertIs(held.exception.given, kept)

    def change_both(self, shop, model, word, values):
        wanted = getattr(model, word)(*values)
        if wanted is None:
            self.assertIsNone(getattr(shop, word)(*values))
        else:
            self.assert_raises_as(lambda: getattr(shop, word)(*values), *wanted)
        self.assert_same(shop, model)
        return wanted

    def test_beside_a_model(self):
        seen = set()
        for seed in range(40):
            chance = random.Random(seed)
            shop, model = Workshop(), Model()
            for _ in range(60):
                word, values = some_change(chance)
                error = self.change_both(shop, model, word, values)
                seen.add((word, error and error[0]))
            while len(shop) > 0:
                self.change_both(shop, model, "undo", ())
            self.change_both(shop, model, "undo", ())
        self.assertEqual(len(seen), 12)

    def test_all_kinds_of_wishes(self):
        seen = set()
        for winding in WINDINGS:
            shop, model = Workshop(), Model()
            for name, one in (("a", winding), ("b", SIX), ("cc", winding)):
                self.change_both(shop, model, "put", (name, one))
            for word, all_told in TOLD.items():
                for told in all_told:
                    wish = (word, "a", *told)
                    error = self.change_both(shop, model, "wish", (wish,))
                    seen.add((word, error is None))
                    if error is None:
                        self.assertIs(shop.wishes[-1], wish)
                        self.change_both(shop, model, "wish", (wish,))
                        self.change_both(shop, model, "lift", (len(shop.wishes) - 1,))
        self.assertEqual(seen, {(word, holds) for word in TOLD for holds in (True, False)})

    def test_put_and_drop_of_what_wishes_name(self):
        for word, all_told in TOLD.items():
            for told in all_told:
                wish = (word, "a", *told)
                for first in WINDINGS:
                    windings = {"a": first, "b": SIX, "cc": WIDE}
                    if not is_so(wish, windings):
                        continue
                    shop, model = Workshop(), Model()
                    for name, winding in windings.items():
                        self.change_both(shop, model, "put", (name, winding))
                    self.change_both(shop, model, "wish", (("lacks", "b", ()),))
                    self.change_both(shop, model, "wish", (wish,))
                    for winding in WINDINGS:
                        self.change_both(shop, model, "put", ("a", winding))
                        self.change_both(shop, model, "put", ("b", winding))
                    for name in ("a", "b", "cc"):
                        self.change_both(shop, model, "drop", (name,))
                    break

    def test_first_wish_that_would_not_hold(self):
        shop = Workshop()
        shop.put("a", SIX)
        shop.put("b", SIX)
        for wish in (("full", "b", 1), ("lacks", "a", (3,)), ("step", "a", (2, 1)), ("alike", "b", "a", "any")):
            shop.wish(wish)
        self.assert_raises_as(lambda: shop.put("a", HALF), errors.Broken, 2)
        self.assert_raises_as(lambda: shop.put("a", (SIX[0],) * 3), errors.Broken, 2)
        self.assert_raises_as(lambda: shop.put("b", HALF), errors.Broken, 3)
        self.assert_raises_as(lambda: shop.put("b", WIDE), errors.Broken, 3)
        self.assert_raises_as(lambda: shop.put("b", ((0, 0),)), errors.Broken, 0)
        self.assert_raises_as(lambda: shop.drop("a"), errors.InUse, 1)
        self.assert_raises_as(lambda: shop.drop("b"), errors.InUse, 0)
        self.assert_raises_as(lambda: shop.wish(("full", "a", 2)), errors.Broken, 4)
        self.assertEqual(len(shop), 6)
        shop.lift(3)
        shop.lift(0)
        shop.drop("b")
        self.assertEqual(shop.wishes, (("lacks", "a", (3,)), ("step", "a", (2, 1))))
        self.assertEqual(len(shop), 9)

    def test_each_change_counts_also_if_all_stays(self):
        shop = Workshop()
        shop.put("a", SIX)
        shop.put("a", SIX)
        shop.wish(("full", "a", 1))
        shop.wish(("full", "a", 1))
        self.assertEqual(len(shop), 4)
        self.assertEqual(shop.wishes, (("full", "a", 1),) * 2)
        shop.lift(1)
        self.assertEqual((len(shop), shop.wishes), (5, (("full", "a", 1),)))
        for _ in range(3):
            shop.undo()
        self.assertEqual((len(shop), shop.wishes, shop.names), (2, (), ("a",)))

    def test_wrong_names_windings_wishes_and_indexes(self):
        shop, model = Workshop(), Model()
        self.change_both(shop, model, "put", ("a", SIX))
        self.change_both(shop, model, "put", ("b", SIX))
        self.change_both(shop, model, "wish", (("full", "a", 1),))
        for name in NO_NAMES:
            self.assert_raises_as(lambda: shop.put(name, SIX), errors.InvalidName, name)
            self.assert_raises_as(lambda: shop.put(name, None), errors.InvalidName, name)
            self.assert_raises_as(lambda: shop.drop(name), errors.UnknownName, name)
            self.assert_raises_as(lambda: shop.named(name), errors.UnknownName, name)
            self.assertIs(name in shop, False)
            self.assert_same(shop, model)
        for winding, kept in KINDS["winding"][1]:
            self.assert_raises_as(lambda: shop.put("a", winding), errors.InvalidWinding, kept)
            self.assert_raises_as(lambda: shop.put("new", winding), errors.InvalidWinding, kept)
        for wish in BAD_WISHES:
            self.assert_raises_as(lambda: shop.wish(wish), errors.InvalidWish, wish)
        for index in PLAIN + (-1, 1, 2, BIG, -BIG, (0,), "0"):
            self.assert_raises_as(lambda: shop.lift(index), errors.InvalidIndex, index)
        self.assert_same(shop, model)
        self.assert_raises_as(lambda: Workshop().lift(0), errors.InvalidIndex, 0)

    def test_unknown_names_in_wishes(self):
        shop = Workshop()
        shop.put("a", SIX)
        for wish, name in ((("there", "b", 0, 1), "b"), (("alike", "b", "c", "any"), "b"), (("alike", "a", "c", "any"), "c"),
                           (("alike", "c", "a", "any"), "c"), (("full", "zz", 2), "zz"), (("lacks", "x", ()), "x")):
            with self.assertRaises(errors.UnknownName) as held:
                shop.wish(wish)
            self.assertEqual(held.exception.given, name)
        with self.assertRaises(errors.UnknownName) as held:
            shop.named("b")
        self.assertEqual(held.exception.given, "b")
        self.assertEqual(len(shop), 1)

    def test_by_name_and_where_it_stands(self):
        shop = Workshop()
        shop.put(winding=SIX, name="a")
        shop.wish(wish=("full", "a", 1))
        self.assertEqual(shop.named(name="a"), SIX)
        shop.lift(index=0)
        shop.drop(name="a")
        self.assertEqual(shop.tried(action=len), 4)
        told = {"put": ["name", "winding"], "drop": ["name"], "wish": ["wish"], "lift": ["index"], "named": ["name"],
                "undo": [], "trial": [], "tried": ["action"], "__len__": [], "__contains__": None, "__bool__": []}
        for name, wanted in told.items():
            method = vars(Workshop)[name]
            if wanted is not None:
                self.assertEqual(list(inspect.signature(method).parameters), ["self"] + wanted)
        self.assertIsInstance(vars(Workshop)["names"], property)
        self.assertIsInstance(vars(Workshop)["wishes"], property)
        self.assertEqual(Workshop.__module__, workshops.__name__)

    def test_equal_to_itself_alone(self):
        shop, other = Workshop(), Workshop()
        self.assertTrue(shop == shop)
        for thing in (other, 0, None, (), "", [], {}):
            self.assertFalse(shop == thing)
            self.assertTrue(shop != thing)
        shop.put("a", SIX)
        other.put("b", HALF)
        other.wish(("full", "b", 1))
        self.assertEqual((shop.names, shop.wishes, len(shop)), (("a",), (), 1))
        self.assertEqual((other.names, other.wishes, len(other)), (("b",), (("full", "b", 1),), 2))
        other.undo()
        self.assertEqual((len(shop), len(other)), (1, 1))

    def test_names_are_ascending(self):
        shop = Workshop()
        for name in ("b", "zz", "a", "ab", "z", "aa"):
            shop.put(name, HALF)
        self.assertEqual(shop.names, ("a", "aa", "ab", "b", "z", "zz"))
        self.assertIs(type(shop.names), tuple)
        self.assertIs(type(shop.wishes), tuple)

    def test_many_changes(self):
        shop = Workshop()
        for _ in range(3000):
            shop.put("a", HALF)
        with shop.trial():
            for _ in range(3000):
                shop.undo()
            self.assertEqual(len(shop), 0)
        self.assertEqual(shop.names, ())


class TrialTest(unittest.TestCase):
    def setUp(self):
        self.shop = Workshop()
        self.shop.put("a", SIX)
        self.shop.put("b", HALF)
        self.shop.wish(("full", "a", 1))
        self.before = self.told()

    def told(self):
        shop = self.shop
        return shop.names, shop.wishes, len(shop), [shop.named(name) for name in shop.names]

    def all_states(self):
        """All states that undoing leads through."""
        states = [self.told()]
        while len(self.shop) > 0:
            self.shop.undo()
            states.append(self.told())
        return states

    def test_blocks_that_end_well(self):
        with self.shop.trial() as held:
            self.assertIs(held, self.shop)
            held.put("c", WIDE)
            held.undo()
            held.undo()
            held.drop("b")
        self.assertEqual(self.told()[:3], (("a",), (), 3))

    def test_blocks_that_end_with_an_exception(self):
        for error in (errors.Broken(3), ValueError("x"), KeyboardInterrupt(), GeneratorExit(), StopIteration()):
            with self.assertRaises(type(error)) as held:
                with self.shop.trial():
                    self.shop.put("c", WIDE)
                    for _ in range(4):
                        self.shop.undo()
                    self.shop.put("d", HALF)
                    raise error
            self.assertIs(held.exception, error)
            self.assertEqual(self.told(), self.before)
        with self.assertRaises(errors.NothingToUndo):
            with self.shop.trial():
                while True:
                    self.shop.undo()
        self.assertEqual(self.told(), self.before)
        self.assertEqual([state[0] for state in self.all_states()], [("a", "b"), ("a", "b"), ("a",), ()])

    def test_a_call_alone_changes_nothing(self):
        trial = self.shop.trial()
        self.assertEqual(self.told(), self.before)
        self.shop.put("c", HALF)
        with self.assertRaises(KeyError):
            with trial:
                self.shop.drop("c")
                raise KeyError("c")
        self.assertEqual(self.shop.names, ("a", "b", "c"))
        self.assertIsNot(self.shop.trial(), self.shop.trial())

    def test_one_trial_for_several_blocks(self):
        trial = self.shop.trial()
        for round_ in range(3):
            with trial as held:
                held.put("c", HALF)
            with self.assertRaises(errors.UnknownName):
                with trial:
                    self.shop.drop("c")
                    self.shop.drop("c")
            self.assertEqual(self.shop.names, ("a", "b", "c"))
            self.assertEqual(len(self.shop), 4 + round_)

    def test_one_trial_within_itself(self):
        trial = self.shop.trial()
        with self.assertRaises(KeyError):
            with trial:
                self.shop.put("c", HALF)
                with self.assertRaises(ValueError):
                    with trial:
                        self.shop.drop("c")
                        raise ValueError()
                self.assertEqual(self.shop.names, ("a", "b", "c"))
                with trial:
                    self.shop.put("d", HALF)
                self.assertEqual(self.shop.names, ("a", "b", "c", "d"))
                raise KeyError()
        self.assertEqual(self.told(), self.before)

    def test_trials_within_trials(self):
        with self.shop.trial():
            self.shop.put("c", HALF)
            with self.assertRaises(KeyError):
                with self.shop.trial():
                    self.shop.undo()
                    self.shop.undo()
                    with self.shop.trial():
                        self.shop.put("d", HALF)
                    raise KeyError()
            self.assertEqual((self.shop.names, len(self.shop)), (("a", "b", "c"), 4))
        self.assertEqual((self.shop.names, len(self.shop)), (("a", "b", "c"), 4))
        self.shop.undo()
        self.assertEqual(self.told(), self.before)

    def test_the_history_after_a_failed_trial(self):
        wanted = self.all_states()
        self.setUp()
        with self.assertRaises(KeyError):
            with self.shop.trial():
                self.all_states()
                self.shop.put("e", WIDE)
                raise KeyError()
        self.assertEqual(self.all_states(), wanted)

    def test_tried(self):
        def well(shop):
            shop.put("c", HALF)
            return shop.names, shop
        self.assertEqual(self.shop.tried(well), (("a", "b", "c"), self.shop))
        self.assertIsNone(self.shop.tried(lambda shop: shop.undo()))
        self.assertEqual(self.told(), self.before)

        def badly(shop):
            shop.put("c", HALF)
            self.assertEqual(shop.tried(len), 4)
            shop.put("a", ((0, 0),))
        with self.assertRaises(errors.Broken) as held:
            self.shop.tried(action=badly)
        self.assertEqual(held.exception.index, 0)
        self.assertEqual(self.told(), self.before)

    def test_returning_from_a_block(self):
        def leave():
            with self.shop.trial() as shop:
                shop.put("c", HALF)
                return shop.names
        self.assertEqual(leave(), ("a", "b", "c"))
        self.assertIn("c", self.shop)

    def test_random_trials_beside_a_model(self):
        for seed in range(30):
            chance = random.Random(seed)
            shop, model = Workshop(), Model()
            self.run_blocks(chance, shop, model, 4, shop.trial())

    def run_blocks(self, chance, shop, model, depth, trial):
        for _ in range(6):
            if depth > 0 and chance.random() < 0.4:
                kept = list(model.states)
                fails = chance.random() < 0.5
                try:
                    with (trial if chance.random() < 0.5 else shop.trial()):
                        self.run_blocks(chance, shop, model, depth - 1, trial)
                        if fails:
                            raise KeyError()
                except KeyError:
                    model.states = kept
            else:
                word, values = some_change(chance)
                wanted = getattr(model, word)(*values)
                if wanted is None:
                    getattr(shop, word)(*values)
                else:
                    self.assertRaises(wanted[0], getattr(shop, word), *values)
            windings, wishes = model.states[-1]
            self.assertEqual((shop.names, shop.wishes, len(shop)), (tuple(sorted(windings)), wishes, len(model.states) - 1))


class PhasesTest(unittest.TestCase):
    def test_great_numbers(self):
        chance = random.Random(45)
        shop = Workshop()
        winding = tuple(any_phase(chance, 60, BIG) for _ in range(6))
        shop.put("great", winding)
        self.assertIs(shop.named("great"), winding)
        shop.wish(("there", "great", 5, BIG * 60 + 1))
        shop.wish(("gone", "great", 5, BIG * 60))
        shop.wish(("alike", "great", "great", ("even", (5, 2))))
        with self.assertRaises(errors.Broken) as held:
            shop.wish(("balanced", "great", -BIG, (5, 2)))
        self.assertEqual(held.exception.index, 3)
        self.assertEqual(len(shop), 4)


if __name__ == "__main__":
    unittest.main()
