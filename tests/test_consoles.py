"""Consoles: every form of a line with its answers, lines that are nearly of a form, and errors: [45]."""

import inspect
import random
import unittest

from makers import BIG, any_phase
from slotstars import balance, consoles, copies, errors, harmonics
from slotstars.consoles import Console
from slotstars.workshops import Workshop
from wrong_values import PLAIN

SIX = ((1, 0, 0, -1, 0, 0), (0, 0, 1, 0, 0, -1), (0, -1, 0, 0, 1, 0))
SIX_TEXT = "1 0 0 -1 0 0; 0 0 1 0 0 -1; 0 -1 0 0 1 0"


def text_of(winding):
    """The text of a winding."""
    return "; ".join(" ".join(str(number) for number in phase) for phase in winding)


class ConsoleTest(unittest.TestCase):
    def setUp(self):
        self.shop = Workshop()
        self.console = Console(self.shop)

    def assert_no_phrase(self, line):
        before = (self.shop.names, self.shop.wishes, len(self.shop))
        with self.assertRaises(errors.InvalidPhrase) as held:
            self.console.say(line)
        self.assertIs(held.exception.given, line)
        self.assertEqual((self.shop.names, self.shop.wishes, len(self.shop)), before)

    def assert_error(self, line, error, kept):
        before = (self.shop.names, self.shop.wishes, len(self.shop))
        with self.assertRaises(errors.SlotError) as held:
            self.console.say(line)
        self.assertIs(held.exception.__class__, error)
        self.assertEqual(list(vars(held.exception).values()), kept)
        self.assertEqual((self.shop.names, self.shop.wishes, len(self.shop)), before)

    def test_all_forms(self):
        say = self.console.say
        self.assertEqual(say("names"), "none")
        self.assertEqual(say("put six: " + SIX_TEXT), "done")
        self.assertEqual(self.shop.named("six"), SIX)
        self.assertEqual(say("winding six"), SIX_TEXT)
        self.assertEqual(say("orders six"), "2 6")
        self.assertEqual(say("rate six: 1"), "3 1")
        self.assertEqual(say("rate six: -1"), "3 2")
        self.assertEqual(say("rate six: 3"), "1 0")
        self.assertEqual(say("rate six: 0"), "none")
        self.assertEqual(say("rate six: 2"), "none")
        self.assertEqual(say("rate six: " + str(6 * BIG + 1)), "3 1")
        self.assertEqual(say("rate six: " + str(-6 * BIG - 1)), "3 2")
        self.assertEqual(say("steps six"), "2 1; 5 -1")
        self.assertEqual(say("unbalanced six"), "none")
        self.assertEqual(say("put b: 1 -1; -2 2"), "done")
        self.assertEqual(say("put aa: 0 0"), "done")
        self.assertEqual(say("names"), "aa b six")
        self.assertEqual(say("orders aa"), "none")
        self.assertEqual(say("unbalanced aa"), "none")
        self.assertEqual(say("steps aa"), "0 -1; 0 1; 1 -1; 1 1")
        self.assertEqual(say("steps b"), "none")
        self.assertEqual(say("unbalanced b"), "1")
        self.assertEqual(say("rate b: 1"), "none")
        self.assertEqual(say("drop b"), "done")
        self.assertEqual(say(line="names"), "aa six")
        self.assertEqual(say("undo"), "done")
        self.assertEqual(say("names"), "aa b six")
        self.assertEqual(len(self.shop), 3)
        for _ in range(3):
            self.assertEqual(say("undo"), "done")
        self.assertEqual(say("names"), "none")

    def test_names_that_are_words(self):
        for name in ("put", "drop", "undo", "names", "none", "winding", "rate", "steps", "orders", "unbalanced", "done"):
            self.assertEqual(self.console.say(f"put {name}: 1 -1"), "done")
            self.assertEqual(self.console.say("winding " + name), "1 -1")
            self.assertEqual(self.console.say(f"rate {name}: 1"), "1 0")
            self.assertEqual(self.console.say("drop " + name), "done")

    def test_answers_beside_the_modules(self):
        chance = random.Random(45)
        for slots in (2, 3, 6, 9, 12, 60):
            for phases in (1, 2, 3, 6):
                for reach in (1, 3, BIG):
                    winding = tuple(any_phase(chance, slots, reach) for _ in range(phases))
                    if chance.random() < 0.5:
                        winding = (winding[0],) * phases
                    self.assertEqual(self.console.say("put a: " + text_of(winding)), "done")
                    self.assertEqual(self.shop.named("a"), winding)
                    self.assertEqual(self.console.say("winding a"), text_of(winding))
                    self.look_at_answers(winding)

    def look_at_answers(self, winding):
        orders = sorted({order for phase in winding for order in harmonics.orders_there(phase)})
        self.assertEqual(self.console.say("orders a"), " ".join(map(str, orders)) or "none")
        steps = copies.steps_of(winding)
        self.assertEqual(self.console.say("steps a"), "; ".join(f"{s} {e}" for s, e in steps) or "none")
        worst = balance.unbalancing_harmonic(winding)
        self.assertEqual(self.console.say("unbalanced a"), str(worst).lower())
        for h in (0, 1, -2, 3, BIG):
            rate = balance.rate_at(winding, h)
            self.assertEqual(self.console.say(f"rate a: {h}"), "none" if rate is None else f"{rate[0]} {rate[1]}")

    def test_numbers_of_many_figures(self):
        for figures in (39, 40, 4299, 4300, 4301, 9000):
            number = 10 ** figures + 7
            self.shop.put("a", ((number, -number), (0, 0)))
            told = self.console.say("winding a")
            self.assertEqual(told.replace("0", ""), "17 -17;  ")
            self.assertEqual(len(told), 2 * figures + 9)
            self.console.say("put b: " + told)
            self.assertEqual(self.shop.named("b"), self.shop.named("a"))

    def test_lines_that_are_nearly_of_a_form(self):
        self.console.say("put a: 1 -1")
        for line in (
            "", " ", "undo ", " undo", "undo a", "Undo", "undo:", "names ", "names a", " names", "NAMES", "name", "put",
            "put a", "put a:", "put a: ", "put a:1 -1", "put a : 1 -1", "put  a: 1 -1", " put a: 1 -1", "put a: 1 -1 ",
            "put a:  1 -1", "put a: 1  -1", "put a: 1 -1;", "put a: 1 -1; ", "put a: ; 1 -1", "put a: 1 -1;1 -1",
            "put a: 1 -1 ; 1 -1", "put a: 1 -1;  1 -1", "put a: +1 -1", "put a: 01 -1", "put a: 1 -01", "put a: 1 - 1",
            "put a: 1 --1", "put a: -0 0", "put a: 0 -0", "put a: 00 0", "put a: 1,-1", "put a: 1.0 -1", "put a: 1_0 -10",
            "put a: 1e0 -1", "put a: a -a", "put a: 1", "put a: 0", "put a: 1 1", "put a: 1 -1; 1 0 -1", "put a: 1 -1; 2",
            "put a: 1 -2", "put a: 1 -1, 1 -1", "put a: (1, -1)", "put a: 1 -1: 1 -1", "put A: 1 -1", "put a1: 1 -1",
            "put : 1 -1", "put: 1 -1", "put aaaaaaaaaaaaa: 1 -1", "put a b: 1 -1", "put a; 1 -1", "PUT a: 1 -1", "drop",
            "drop ", "drop  a", "drop a ", "drop a:", "drop a: ", "drop a: 1", "drop A", "drop a b", "Drop a", "drop aaaaaaaaaaaaa",
            "winding", "winding ", "winding a ", "winding a:", "winding a: 1", "windings a", "winding a1", "orders",
            "orders a: 2", "orders a ", "order a", "steps", "steps a ", "steps a: 1", "step a", "unbalanced",
            "unbalanced a ", "unbalanced a: 1", "unbalance a", "rate", "rate a", "rate a:", "rate a: ", "rate a 1",
            "rate a:1", "rate a:  1", "rate a: 1 ", "rate a: +1", "rate a: 01", "rate a: -0", "rate a: 1 1", "rate a: -",
            "rate a: --1", "rate a: x", "rate a: 1.0", "rate a: 1; 1", "rate A: 1", "rate : 1", "rates a: 1", "wish a",
            "lift 0", "a", "a: 1", ": ", "; ", "0", "put a: " + "; ".join(["1 -1"] * 7), "put a: " + " ".join(["0"] * 61),
            "put b: " + " ".join(["0"] * 60) + " 0", "rate a: 0x1", "put b: 1 -1\n", "undo\n", "rate a: 1\n",
        ):
            self.assert_no_phrase(line)
        self.assertEqual(self.console.say("put b: " + " ".join(["0"] * 60)), "done")
        self.assertEqual(self.console.say("put b: " + "; ".join(["1 -1"] * 6)), "done")

    def test_what_is_no_text(self):
        for line in tuple(value for value in PLAIN if not isinstance(value, str)) + (0, 1, ("undo",), ["names"], b"undo"):
            self.assert_no_phrase(line)

    def test_figures_of_other_alphabets(self):
        # These are figures for Python, but not what it writes.
        for figure in "\u00b2\u0661\uff11":
            self.assert_no_phrase(f"put a: {figure} -1")
        self.assert_no_phrase("put \u00e9: 1 -1")

    def test_errors_of_what_is_called(self):
        for line in ("drop a", "winding a", "orders a", "rate a: 1", "steps a", "unbalanced a"):
            self.assert_error(line, errors.UnknownName, ["a"])
        self.assert_error("undo", errors.NothingToUndo, [])
        self.console.say("put a: " + SIX_TEXT)
        self.shop.wish(("lacks", "a", ()))
        self.shop.wish(("full", "a", 1))
        self.assert_error("drop a", errors.InUse, [0])
        self.assert_error("put a: 1 -2 1", errors.Broken, [1])
        self.assert_no_phrase("put a: 1 -2")
        self.assert_no_phrase("rate b: 01")
        self.assert_error("rate b: 1", errors.UnknownName, ["b"])
        self.assertEqual(self.console.say("undo"), "done")
        self.assertEqual(self.shop.wishes, (("lacks", "a", ()),))

    def test_consoles_and_workshops(self):
        for value in PLAIN + (0, Workshop, Console(self.shop)):
            with self.assertRaises(errors.NotAWorkshop) as held:
                Console(value)
            self.assertIs(held.exception.given, value)
        other = Console(shop=self.shop)
        other.say("put a: 1 -1")
        self.assertEqual(self.console.say("names"), "a")
        self.assertEqual(Console(Workshop()).say("names"), "none")
        self.assertFalse(other == self.console)
        self.assertTrue(other != self.console)
        self.assertTrue(other == other)
        self.assertTrue(other)
        self.assertEqual(list(inspect.signature(Console).parameters), ["shop"])
        self.assertEqual(list(inspect.signature(vars(Console)["say"]).parameters), ["self", "line"])
        self.assertEqual(Console.__module__, consoles.__name__)
        with self.assertRaises(KeyError):
            with self.shop.trial():
                self.console.say("put b: 1 -1")
                raise KeyError()
        self.assertEqual(self.console.say("names"), "a")


if __name__ == "__main__":
    unittest.main()
