"""Values that are wrong for each kind of argument, for machines of six slots, and what the errors keep of them."""

from slotstars import errors


class Thing:
    """An object of no kind that is asked for, which is equal to everything."""

    def __eq__(self, other):
        return True

    def __hash__(self):
        return 0


def nested(depth):
    """A tuple nested so many deep."""
    value = ()
    for _ in range(depth - 1):
        value = (value,)
    return value


PLAIN = (None, True, False, "", "1", "even", b"1", [], [1], {}, {1: 2}, set(), frozenset((1,)), Thing(), len, Thing,
         1j, range(3), nested(14), [[[]]])
NO_TUPLE = tuple(value for value in PLAIN if not isinstance(value, tuple))
HUGE = 10 ** 40 - 1
ROW = (1, 0, -1, 0, 0, 0)
OPEN_ROW = (1, 0, 0, 0, 0, 0)
SHORT = (1, -1)
WRONG_ROWS = PLAIN + (
    0, 6, (), (1,), (0,) * 61, list(ROW), (1, True), (1, -1, False), (1, None), ("1", "-1"), ((1, -1), (1, -1)),
    (1, (-1,)), (1, -1, [0]), "00",
)
WRONG_PHASES = WRONG_ROWS + ((1, 0), OPEN_ROW, (HUGE, -HUGE, 1), (1, 1, -1))
WRONG_WHOLES = PLAIN + ((), (1,), "0", (1, 2), "7" * 40)


def given(values):
    """Each value with itself."""
    return [(value, value) for value in values]


def outside(least, greatest):
    """What is no whole number between two."""
    return given(WRONG_WHOLES + (least - 1, greatest + 1, least - HUGE, HUGE))


def with_places(good, wrong, most, empty):
    """Tuples with a wrong element at each place, with what is no tuple and one too many."""
    told = [(value, None) for value in NO_TUPLE + ([good[0]], 5, "abc")] + empty
    for bad in wrong:
        for place in range(len(good)):
            told.append((good[:place] + (bad,) + good[place + 1:], place))
        told.append((good + (bad, bad), len(good)))
    if most is not None:
        told.append(((good * most)[:most] + (good[0],), most))
        told.append(((good * most)[:most] + (None,), most))
    return told


def no_windings(most, empty):
    """What are no tuples of phases of as many slots."""
    good = (ROW, (0,) * 6, (0, 0, 1, 0, -1, 0))
    unlike = (ROW + (0,), (0,) * 5, SHORT)
    wrong = WRONG_PHASES + unlike + ((ROW,),)
    # In the first place a phase of other slots is right: the one behind it is then the first wrong one.
    told = [(value, place) for value, place in with_places(good, wrong, most, empty)
            if not (place == 0 and value and any(value[0] is row for row in unlike))]
    return told + [((SHORT, ROW), 1), (((0,) * 60, (0,) * 60, (0,) * 59), 2)]


WRONG_COILS = PLAIN + (
    (0, 0, 1), (0, 0, 1, 1, 1), (6, 0, 1, 1), (-1, 0, 1, 1), (0, 60, 1, 1), (0, 0, 60, 1), (0, -1, 1, 1), (0, 0, -1, 1),
    (0, 2, 2, 1), (0, 0, 1, 0), (True, 0, 1, 1), (0, True, 0, 1), (0, 0, True, 1), (0, 0, 1, True), (0, 0, 1, None),
    [0, 0, 1, 1], ("0", 0, 1, 1), (0, (0,), 1, 1), (0, 0, "1", 1), 0,
)
WRONG_RATES = PLAIN + (
    (1,), (3, 1, 1), (0, 0), (7, 1), (-3, 1), (3, 0), (3, 3), (3, -1), (4, 2), (6, 3), (6, 2), (2, 0), (1, 1), (True, 0),
    (2, True), (1, False), [3, 1], ("3", 1), (3, "1"), (3, None), ((3,), 1), (3, (1,)), (3, HUGE), 3,
)
KINDS = {
    "sum": (errors.InvalidSum, given(PLAIN + (
        0, (6,), (6, (1, 1), 1), [6, (1, 1)], (6, [1, 1]), (6, (1,)), (6, (1, 1, 1)), (6, ()), (6, (1, True)),
        (6, (None, 1)), (6, ("1", 1)), (6, ((1,), 1)), (0, ()), (-6, (1, 1)), (361, (0,) * 342), (True, (1,)),
        ("6", (1, 1)), ((6,), (1, 1)), (6, "11"), (6, 1), (None, (1, 1)), (HUGE, (1,)), (360, (0,) * 95),
    ))),
    "order": (errors.InvalidOrder, outside(1, 360)),
    "numbers": (errors.InvalidNumbers, given(NO_TUPLE + (
        0, [1, 2], "12", (1, True), (False,), (None,), ("1",), (1, (1,)), ((),), (0,) * 721, (1, 2, [3]), nested(14),
    ))),
    "number": (errors.InvalidNumber, given(WRONG_WHOLES)),
    "unit": (errors.InvalidNumber, given(WRONG_WHOLES + (0, 2, 3, 4, 6, -2, -3, HUGE + 1 - 10, 6 * HUGE))),
    "fraction": (errors.InvalidFraction, given(PLAIN + (
        0, (1,), (1, 2, 3), (1, 0), (0, 0), (1, -2), (-1, -2), (2, 4), (0, 2), (-3, 3), [1, 2], (True, 2), (2, True),
        (1, None), ("1", 2), (1, "2"), ((1,), 2), (HUGE, HUGE), (0, -1),
    ))),
    "row": (errors.InvalidRow, given(WRONG_ROWS)),
    "phase": (errors.InvalidPhase, given(WRONG_PHASES)),
    "slots": (errors.InvalidSlots, outside(2, 60)),
    "phases": (errors.InvalidNumber, outside(1, 6)),
    "conductors": (errors.InvalidNumber, outside(1, 60)),
    "ways_number": (errors.InvalidNumber, outside(1, 8)),
    "winding": (errors.InvalidWinding, no_windings(6, [((), None)])),
    "ways": (errors.InvalidWays, no_windings(8, [((), 0), ((ROW,), 1)])),
    "groups": (errors.InvalidGroups, no_windings(8, [((), 0)])),
    "coils": (errors.InvalidCoils, with_places(((0, 0, 1, 1), (5, 59, 0, -2), (1, 1, 2, HUGE)), WRONG_COILS, 60, [])),
    "orders": (errors.InvalidOrders, with_places(
        (1, 2, 6), PLAIN + (0, -1, -2, 4, 5, 7, 12, HUGE, (1,), "2"), None,
        [((1, 1), 1), ((2, 3, 2), 2), ((1, 2, 3, 6, 6), 4), ((1, 2, 3, 6, 1), 4), ((4, True), 0)],
    )),
    "rate": (errors.InvalidRate, given(WRONG_RATES)),
    "step": (errors.InvalidStep, given(PLAIN + (
        (0,), (0, 1, 1), (6, 1), (-1, 1), (0, 0), (0, 2), (0, -2), (True, 1), (0, True), [0, 1], (None, 1), (0, None),
        ("0", 1), (0, "1"), ((0,), 1), (0, (1,)), (HUGE, 1), (0, HUGE), 0,
    ))),
    "currents": (errors.InvalidCurrents, given(
        tuple(value for value in PLAIN) + ("Any", "any ", "open", ("any",), ("closed",), ["even", (3, 1)], ("even",),
                                           ("even", (3, 1), 1), ("odd", (3, 1)), ("any", (3, 1)), (3, 1), 0)
        + tuple(("even", rate) for rate in WRONG_RATES) + tuple((word, (3, 1)) for word in PLAIN if word != "even"),
    )),
    "divisor": (errors.InvalidNumber, given(WRONG_WHOLES + (0, -1, -2, 4, 5, 7, 12, HUGE))),
    "half_divisor": (errors.InvalidNumber, given(WRONG_WHOLES + (0, -1, -3, 2, 4, 5, 6, 12, HUGE))),
    "sharing": (errors.InvalidSharing, given(PLAIN + (
        (), (0,), (0, 0), (0, 0, 0, 0), (1, 0, 0), (0, 2, 0), (0, 0, 2), (0, 1, 3), (-1, 0, 0), (0, -1, 0), [0, 0, 1],
        (False, 0, 1), (0, True, 0), (0, 1, True), (0, None, 0), (0, "1", 1), (0, (1,), 0), 0, (0, 1, HUGE),
    ))),
}
KINDS["plain_currents"] = (errors.InvalidCurrents, KINDS["currents"][1] + given((("even", (3, 1)), ("even", (1, 0)))))
