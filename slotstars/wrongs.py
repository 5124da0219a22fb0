"""Wrong coils: what can be wrong, the windings that this makes, and those that no test parts."""

from itertools import combinations

from slotstars.errors import InvalidWrong, TooMany
from slotstars.rows import check_coils, check_coils_fit, check_phases, check_slots, winding_of
from slotstars.wholes import is_within

MOST_TESTED = 8


def is_wrong(value, coils):
    """Whether it is a wrong of these coils, whatever it is."""
    if not (isinstance(value, tuple) and len(value) > 0 and isinstance(value[0], str)):
        return False
    word, *places = value
    if not all(is_within(place, 0, len(coils) - 1) for place in places):
        return False
    if word == "right":
        return len(places) == 0
    if word in ("turned", "out"):
        return len(places) == 1
    if word != "swapped" or len(places) != 2:
        return False
    first, second = places
    return first < second and coils[first][0] != coils[second][0]


def check_few_coils(coils):
    """Raises TooMany for more coils than can be tested."""
    if len(coils) > MOST_TESTED:
        raise TooMany(len(coils))


def check_tested_coils(coils, slots, phases):
    """Raises what is told last of coils: InvalidCoils for what is not there, TooMany for more than can be tested."""
    check_coils_fit(coils, slots, phases)
    check_few_coils(coils)


def wrongs_of(coils):
    """The tuple of all wrongs of the coils."""
    check_coils(coils)
    check_few_coils(coils)
    places = list(range(len(coils)))
    turned = [("turned", place) for place in places]
    out = [("out", place) for place in places]
    swapped = [("swapped", *pair) for pair in combinations(places, 2)]
    return tuple([("right",)] + turned + out + [wrong for wrong in swapped if is_wrong(wrong, coils)])


def wrong_winding(coils, slots, phases, wrong):
    """The winding of the coils with this wrong."""
    check_coils(coils)
    check_slots(slots)
    check_phases(phases)
    if not is_wrong(wrong, coils):
        raise InvalidWrong(wrong)
    check_tested_coils(coils, slots, phases)
    return winding_of(_wrong_coils(coils, wrong), slots, phases)


def _wrong_coils(coils, wrong):
    """The coils as they lie with this wrong."""
    word, *places = wrong
    if word == "out":
        return tuple(coil for place, coil in enumerate(coils) if place not in places)
    changed = list(coils)
    if word == "turned":
        phase, start, end, turns = coils[places[0]]
        changed[places[0]] = (phase, start, end, - turns)
    if word == "swapped":
        first, second = places
        changed[first] = (coils[second][0], *coils[first][1:])
        changed[second] = (coils[first][0], *coils[second][1:])
    return tuple(changed)


def traces_of(winding):
    """What all readings of a winding hang on: no test parts two windings exactly if these are the same for both."""
    held = [[(slot, number) for slot, number in enumerate(phase) if number != 0] for phase in winding]
    slots = len(winding[0])
    return tuple(_trace(left, right, slots) for place, left in enumerate(held) for right in held[:place + 1])


def _trace(left, right, slots):
    """The sums of left[s] * right[s + d] + right[s] * left[s + d] for each d; of both rows what is not 0 is told."""
    sums = [0] * slots
    for slot, number in left:
        for other, part in right:
            sums[(other - slot) % slots] += number * part
            sums[(slot - other) % slots] += number * part
    return tuple(sums)


def blind_pairs(coils, slots, phases):
    """The pairs of indexes, the first below the second, of wrongs whose windings no test parts."""
    check_coils(coils)
    check_slots(slots)
    check_phases(phases)
    check_tested_coils(coils, slots, phases)
    traces = [traces_of(wrong_winding(coils, slots, phases, wrong)) for wrong in wrongs_of(coils)]
    places = list(range(len(traces)))
    return tuple([(first, second) for first, second in combinations(places, 2) if traces[first] == traces[second]])
