"""Values that are wrong for each kind of argument, for machines of six slots, and what the errors keep of them."""

from slotstars import errors


class Thing:
    """An object of no kind that is asked for, which is equal to everything."""

    def __eq__(self, other):
        return True

    def __hash__(self):
        return 0


def nested(depth):
    """A tuple nested so many deep."""
    value = ()
    for _ in range(depth - 1):
        value = (value,)
    return value


PLAIN = (None, True, False, "", "1", "even", b"1", [], [1], {}, {1: 2}, set(), frozenset((1,)), Thing(), len, Thing,
         1j, range(3), nested(14), [[[]]])
NO_TUPLE = tuple(value for value in PLAIN if not isinstance(value, tuple))
HUGE = 10 ** 40 - 1
ROW = (1, 0, -1, 0, 0, 0)
OPEN_ROW = (1, 0, 0, 0, 0, 0)
SHORT = (1, -1)
WRONG_ROWS = PLAIN + (
    0, 6, (), (1,), (0,) * 61, list(ROW), (1, True), (1, -1, False), (1, None), ("1", "-1"), ((1, -1), (1, -1)),
    (1, (-1,)), (1, -1, [0]), "00",
)
WRONG_PHASES = WRONG_ROWS + ((1, 0), OPEN_ROW, (HUGE, -HUGE, 1), (1, 1, -1))
WRONG_WHOLES = PLAIN + ((), (1,), "0", (1, 2), "7" * 40)


def given(values):
    """Each value with itself."""
    return [(value, value) for value in values]


def outside(least, greatest):
    """What is no whole number between two."""
    return given(WRONG_WHOLES + (least - 1, greatest + 1, least - HUGE, HUGE))


def with_places(good, wrong, most, empty):
    """Tuples with a wrong element at each place, with what is no tuple and one too many."""
    told = [(value, None) for value in NO_TUPLE + ([good[0]], 5, "abc")] + empty
    for bad in wrong:
        for place in range(len(good)):
            told.append((good[:place] + (bad,) + good[place + 1:], place))
        told.append((good + (bad, bad), len(good)))
    if most is not None:
        told.append(((good * most)[:most] + (good[0],), most))
        told.append(((good * most)[:most] + (None,), most))
    return told


def no_windings(most, empty, wrong_rows=None):
    """What are no tuples of phases, or of other rows, of as many slots."""
    good = (ROW, (0,) * 6, (0, 0, 1, 0, -1, 0))
    unlike = (ROW + (0,), (0,) * 5, SHORT)
    wrong = (wrong_rows or WRONG_PHASES) + unlike + ((ROW,),)
    # In the first place a phase of other slots is right: the one behind it is then the first wrong one.
    told = [(value, place) for value, place in with_places(good, wrong, most, empty)
            if not (place == 0 and value and any(value[0] is row for row in unlike))]
    return told + [((SHORT, ROW), 1), (((0,) * 60, (0,) * 60, (0,) * 59), 2)]


WRONG_COILS = PLAIN + (
    (0, 0, 1), (0, 0, 1, 1, 1), (6, 0, 1, 1), (-1, 0, 1, 1), (0, 60, 1, 1), (0, 0, 60, 1), (0, -1, 1, 1), (0, 0, -1, 1),
    (0, 2, 2, 1), (0, 0, 1, 0), (True, 0, 1, 1), (0, True, 0, 1), (0, 0, True, 1), (0, 0, 1, True), (0, 0, 1, None),
    [0, 0, 1, 1], ("0", 0, 1, 1), (0, (0,), 1, 1), (0, 0, "1", 1), 0,
)
WRONG_RATES = PLAIN + (
    (1,), (3, 1, 1), (0, 0), (7, 1), (-3, 1), (3, 0), (3, 3), (3, -1), (4, 2), (6, 3), (6, 2), (2, 0), (1, 1), (True, 0),
    (2, True), (1, False), [3, 1], ("3", 1), (3, "1"), (3, None), ((3,), 1), (3, (1,)), (3, HUGE), 3,
)
TEST = ((1, -1, 0), 1)
WRONG_TESTS = PLAIN + (
    0, (), TEST[:1], TEST + (1,), [(1, -1, 0), 1], ([1, -1, 0], 1), ((1, -1), 1), ((1, -1, 0, 0), 1), ((0, 0, 0), 1),
    ((2, 0, 0), 1), ((0, -2, 0), 1), ((1, -1, HUGE), 1), ((True, 0, 0), 1), ((0, 1, False), 1), ((1, None, 0), 1),
    (("1", 0, 0), 1), (((1,), 0, 0), 1), ((), 1), (1, 1), ("100", 1), (None, 1),
) + tuple(((1, 0, -1), harmonic) for harmonic in WRONG_WHOLES)
FINDING = (TEST, ("lit",))
WRONG_TELLS = PLAIN + (
    "dark", "lit", ("dark", 1), ("lit", None), ("lit", (1, 2)), ("Dark",), ("light",), (b"lit",), ["lit"], ("below",),
    ("from",), ("below", (1, 2), 1), ("above", (1, 2)), ("below", 1), ("from", (2, 4)), ("from", (1, 0)),
    ("below", (1, -2)), ("below", (True, 2)), ("from", (1,)), ("from", [1, 2]), ["from", (1, 2)], (None,), (1, (1, 2)),
    (("lit",),), (Thing(),), (Thing(), (1, 2)), 0,
)
WRONG_FINDINGS = PLAIN + (0, (), (TEST,), FINDING + (1,), [TEST, ("lit",)], TEST) + tuple(
    (TEST, tells) for tells in WRONG_TELLS) + tuple((test, ("lit",)) for test in WRONG_TESTS)
WRONG_SPACES = WRONG_ROWS + ((1, 1, 1, 1, 1, -1), (-HUGE, 1, 1, 1, 1, 1), (1,) * 5, (1,) * 7)
FULL = (1,) * 6
KINDS = {
    "sum": (errors.InvalidSum, given(PLAIN + (
        0, (6,), (6, (1, 1), 1), [6, (1, 1)], (6, [1, 1]), (6, (1,)), (6, (1, 1, 1)), (6, ()), (6, (1, True)),
        (6, (None, 1)), (6, ("1", 1)), (6, ((1,), 1)), (0, ()), (-6, (1, 1)), (361, (0,) * 342), (True, (1,)),
        ("6", (1, 1)), ((6,), (1, 1)), (6, "11"), (6, 1), (None, (1, 1)), (HUGE, (1,)), (360, (0,) * 95),
    ))),
    "order": (errors.InvalidOrder, outside(1, 360)),
    "numbers": (errors.InvalidNumbers, given(NO_TUPLE + (
        0, [1, 2], "12", (1, True), (False,), (None,), ("1",), (1, (1,)), ((),), (0,) * 721, (1, 2, [3]), nested(14),
    ))),
    "number": (errors.InvalidNumber, given(WRONG_WHOLES)),
    "unit": (errors.InvalidNumber, given(WRONG_WHOLES + (0, 2, 3, 4, 6, -2, -3, HUGE + 1 - 10, 6 * HUGE))),
    "fraction": (errors.InvalidFraction, given(PLAIN + (
        0, (1,), (1, 2, 3), (1, 0), (0, 0), (1, -2), (-1, -2), (2, 4), (0, 2), (-3, 3), [1, 2], (True, 2), (2, True),
        (1, None), ("1", 2), (1, "2"), ((1,), 2), (HUGE, HUGE), (0, -1),
    ))),
    "row": (errors.InvalidRow, given(WRONG_ROWS)),
    "phase": (errors.InvalidPhase, given(WRONG_PHASES)),
    "slots": (errors.InvalidSlots, outside(2, 60)),
    "phases": (errors.InvalidNumber, outside(1, 6)),
    "conductors": (errors.InvalidNumber, outside(1, 60)),
    "ways_number": (errors.InvalidNumber, outside(1, 8)),
    "winding": (errors.InvalidWinding, no_windings(6, [((), None)])),
    "ways": (errors.InvalidWays, no_windings(8, [((), 0), ((ROW,), 1)])),
    "groups": (errors.InvalidGroups, no_windings(8, [((), 0)])),
    "six_groups": (errors.InvalidGroups, no_windings(6, [((), 0)])),
    "joining": (errors.InvalidJoining, given(PLAIN + (
        (), ((0, 1), (1, 1)), ((0, 1),) * 4, [(0, 1), (1, 1), (2, 1)], ((0, 1), (1, 1), [2, 1]), ((0, 1), (1, 1), 2),
        ((0, 1), (3, 1), (2, 1)), ((-1, 1), (1, 1), (2, 1)), ((0, 1), (1, 0), (2, 1)), ((0, 1), (1, 2), (2, 1)),
        ((0, 1), (1, -2), (2, 1)), ((0, 1), (1, 1, 1), (2, 1)), ((0,), (1, 1), (2, 1)), ((0, 1), (True, 1), (2, 1)),
        ((False, 1), (1, 1), (2, 1)), ((0, 1), (1, True), (2, 1)), ((0, 1), (None, 1), (2, 1)),
        ((0, 1), ("1", 1), (2, 1)), ((0, 1), (1, "1"), (2, 1)), ((0, 1), (1, (1,)), (2, 1)), (0, 1, 2), "012",
        ((0, 1), (HUGE, 1), (2, 1)), ((0, 1), (1, HUGE), (2, 1)), ((0, 1), (1, 1), None), 0,
    ))),
    "wrong": (errors.InvalidWrong, given(PLAIN + (
        (), "right", ("right", 0), ("right", None), ("Right",), (b"right",), ["right"], ("turned",), ("turned", -1),
        ("turned", 60), ("turned", True), ("turned", "0"), ("turned", (0,)), ("turned", None), ("turned", 0, 1),
        ["turned", 0], ("out",), ("out", -1), ("out", HUGE), ("out", False), ("out", [0]), ("out", 0, 0), ("swapped",),
        ("swapped", 0), ("swapped", 0, 1, 0), ("swapped", 0, 0), ("swapped", 1, 0), ("swapped", 0, 60),
        ("swapped", -1, 1), ("swapped", False, 1), ("swapped", 0, True), ("swapped", 0, None), ("swapped", (0, 1)),
        ("lost", 0), ("", 0), (0, 0), (None, 0), (Thing(), 0), (Thing(),), (Thing(), 0, 1), (("out",), 0),
        ("out", Thing()),
    ))),
    "test": (errors.InvalidTest, given(WRONG_TESTS)),
    "tests": (errors.InvalidTests, with_places((TEST, ((0, 0, 1), -HUGE), TEST), WRONG_TESTS, 8, [])),
    "finding": (errors.InvalidFinding, given(WRONG_FINDINGS)),
    "findings": (errors.InvalidFindings, with_places(
        (FINDING, (TEST, ("below", (-1, 2))), (TEST, ("dark",))), WRONG_FINDINGS, 8, [])),
    "room": (errors.InvalidRoom, given(
        PLAIN + (0, FULL, (FULL,), (FULL, FULL, FULL), [FULL, FULL], ((1,) * 60, (1,) * 59), ((1,) * 61, (1,) * 61))
        + tuple((FULL, space) for space in WRONG_SPACES) + tuple((space, FULL) for space in WRONG_SPACES),
    )),
    "wave_number": (errors.InvalidNumber, given(WRONG_WHOLES + (0,))),
    "from_nought": (errors.InvalidNumber, given(WRONG_WHOLES + (-1, -2, -HUGE))),
    "moment": (errors.InvalidMoment, outside(0, 11)),
    "pairs": (errors.InvalidPairs, outside(1, 60)),
    "positive": (errors.InvalidNumber, given(WRONG_WHOLES + (0, -1, -HUGE))),
    "sight": (errors.InvalidSight, outside(0, 11)),
    "narrow": (errors.InvalidNumber, given(WRONG_WHOLES + (0, 2, 4, 6, 7, -1, -3, HUGE))),
    "span": (errors.InvalidSpan, outside(1, 5)),
    "belts": (errors.InvalidBelts, no_windings(6, [((), None)], WRONG_ROWS)),
    "chain": (errors.InvalidChain, with_places((("span", 1), ("belt", 60, 5), ("belt", 2, 1)), PLAIN + (
        0, "span", (), ("span",), ("span", 0), ("span", -1), ("span", 6), ("span", HUGE), ("span", True),
        ("span", None), ("span", "1"), ("span", (1,)), ("span", 2, 3), ["span", 1], ("Span", 1), (b"span", 1), (1, 1),
        (Thing(), 1), (Thing(), 2, 1), ("belt", 2), ("belt", 1, 1), ("belt", 61, 1), ("belt", -2, 1), ("belt", 2, 0),
        ("belt", 2, 6), ("belt", 2, -1), ("belt", HUGE, 1), ("belt", 2, HUGE), ("belt", True, 1), ("belt", 2, True),
        ("belt", None, 1), ("belt", "2", 1), ("belt", 2, (1,)), ("belt", 2, 1, 1), ["belt", 2, 1], ("chain", 1),
        (("span", 1), 1), (None, 1), ("belt", Thing(), 1), ("span", Thing()),
    ), 12, [])),
    "slot": (errors.InvalidSlot, outside(0, 5)),
    "point": (errors.InvalidPoint, given(PLAIN + (
        0, (), (1,), (1, 2, 3), [1, 2], "12", (True, 1), (1, False), (None, 1), (1, None), ("1", 1), (1, "1"),
        ((1,), 1), (1, (1,)), (1, [1]), (Thing(), 1), ((1, 2), (1, 2)),
    ))),
    "coils": (errors.InvalidCoils, with_places(((0, 0, 1, 1), (5, 59, 0, -2), (1, 1, 2, HUGE)), WRONG_COILS, 60, [])),
    "orders": (errors.InvalidOrders, with_places(
        (1, 2, 6), PLAIN + (0, -1, -2, 4, 5, 7, 12, HUGE, (1,), "2"), None,
        [((1, 1), 1), ((2, 3, 2), 2), ((1, 2, 3, 6, 6), 4), ((1, 2, 3, 6, 1), 4), ((4, True), 0)],
    )),
    "rate": (errors.InvalidRate, given(WRONG_RATES)),
    "step": (errors.InvalidStep, given(PLAIN + (
        (0,), (0, 1, 1), (6, 1), (-1, 1), (0, 0), (0, 2), (0, -2), (True, 1), (0, True), [0, 1], (None, 1), (0, None),
        ("0", 1), (0, "1"), ((0,), 1), (0, (1,)), (HUGE, 1), (0, HUGE), 0,
    ))),
    "currents": (errors.InvalidCurrents, given(
        tuple(value for value in PLAIN) + ("Any", "any ", "open", ("any",), ("closed",), ["even", (3, 1)], ("even",),
                                           ("even", (3, 1), 1), ("odd", (3, 1)), ("any", (3, 1)), (3, 1), 0)
        + tuple(("even", rate) for rate in WRONG_RATES) + tuple((word, (3, 1)) for word in PLAIN if word != "even"),
    )),
    "divisor": (errors.InvalidNumber, given(WRONG_WHOLES + (0, -1, -2, 4, 5, 7, 12, HUGE))),
    "half_divisor": (errors.InvalidNumber, given(WRONG_WHOLES + (0, -1, -3, 2, 4, 5, 6, 12, HUGE))),
    "sharing": (errors.InvalidSharing, given(PLAIN + (
        (), (0,), (0, 0), (0, 0, 0, 0), (1, 0, 0), (0, 2, 0), (0, 0, 2), (0, 1, 3), (-1, 0, 0), (0, -1, 0), [0, 0, 1],
        (False, 0, 1), (0, True, 0), (0, 1, True), (0, None, 0), (0, "1", 1), (0, (1,), 0), 0, (0, 1, HUGE),
    ))),
}
KINDS["plain_currents"] = (errors.InvalidCurrents, KINDS["currents"][1] + given((("even", (3, 1)), ("even", (1, 0)))))
