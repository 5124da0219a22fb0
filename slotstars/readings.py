"""Tests of windings: their readings, findings and the wrongs that these leave, and the fewest tests."""

from itertools import combinations

from slotstars.balance import check_same_shape
from slotstars.errors import InvalidFinding, InvalidFindings, InvalidTest, InvalidTests
from slotstars.harmonics import size_at
from slotstars.roots import compare_to, is_fraction
from slotstars.rows import check_coils, check_phases, check_slots, check_winding
from slotstars.wholes import are_wholes, is_whole
from slotstars.wrongs import check_tested_coils, traces_of, wrong_winding, wrongs_of

MOST_FINDINGS = 8
MOST_TESTS = 8


def is_test(value, phases):
    """Whether it is a test for so many phases, whatever it is."""
    check_phases(phases)
    if not (isinstance(value, tuple) and len(value) == 2):
        return False
    signs, harmonic = value
    if not (are_wholes(signs) and len(signs) == phases and is_whole(harmonic)):
        return False
    return all(-1 <= sign <= 1 for sign in signs) and any(sign != 0 for sign in signs)


def is_finding(value, phases):
    """Whether it is a finding for so many phases, whatever it is."""
    if not (isinstance(value, tuple) and len(value) == 2 and is_test(value[0], phases)):
        return False
    tells = value[1]
    if not (isinstance(tells, tuple) and len(tells) in (1, 2) and isinstance(tells[0], str)):
        return False
    if len(tells) == 1:
        return tells[0] in ("dark", "lit")
    return tells[0] in ("below", "from") and is_fraction(tells[1])


def check_test(test, phases):
    """Raises InvalidTest for what is no test for so many phases."""
    if not is_test(test, phases):
        raise InvalidTest(test)


def check_tests(tests, phases):
    """Raises InvalidTests for what are no tests for so many phases, or too many."""
    if not isinstance(tests, tuple):
        raise InvalidTests(None)
    for index, test in enumerate(tests):
        if index == MOST_TESTS or not is_test(test, phases):
            raise InvalidTests(index)


def check_findings(findings, phases):
    """Raises InvalidFindings for what are no findings for so many phases, or too many."""
    if not isinstance(findings, tuple):
        raise InvalidFindings(None)
    for index, finding in enumerate(findings):
        if index == MOST_FINDINGS or not is_finding(finding, phases):
            raise InvalidFindings(index)


def reading_of(winding, test):
    """The reading of the test for the winding, a sum of the order Z."""
    check_winding(winding)
    check_test(test, len(winding))
    signs, harmonic = test
    row = tuple(
        sum(sign * number for sign, number in zip(signs, numbers)) for numbers in zip(*winding)
    )
    return size_at(row, harmonic)


def parts(winding, other, test):
    """Whether the readings of the test for both windings are unlike."""
    check_winding(winding)
    check_winding(other)
    check_test(test, len(winding))
    check_same_shape(winding, other)
    return reading_of(winding, test) != reading_of(other, test)


def never_parted(winding, other):
    """Whether no test parts both windings."""
    check_winding(winding)
    check_winding(other)
    check_same_shape(winding, other)
    return traces_of(winding) == traces_of(other)


def is_found(winding, finding):
    """Whether the winding agrees with the finding."""
    check_winding(winding)
    if not is_finding(finding, len(winding)):
        raise InvalidFinding(finding)
    test, (word, *told) = finding
    reading = reading_of(winding, test)
    if word == "dark":
        return not any(reading[1])
    if word == "lit":
        return any(reading[1])
    is_below = compare_to(reading, told[0]) < 0
    return is_below == (word == "below")


def left_by(coils, slots, phases, findings):
    """The tuple of the wrongs whose windings agree with all findings."""
    check_coils(coils)
    check_slots(slots)
    check_phases(phases)
    check_findings(findings, phases)
    check_tested_coils(coils, slots, phases)
    left = []
    for wrong in wrongs_of(coils):
        winding = wrong_winding(coils, slots, phases, wrong)
        if all(is_found(winding, finding) for finding in findings):
            left.append(wrong)
    return tuple(left)


def fewest_tests(coils, slots, phases, tests):
    """The least tuple of indexes of as few tests as possible that part all that the tests together part."""
    check_coils(coils)
    check_slots(slots)
    check_phases(phases)
    check_tests(tests, phases)
    check_tested_coils(coils, slots, phases)
    windings = [wrong_winding(coils, slots, phases, wrong) for wrong in wrongs_of(coils)]
    readings = [tuple(reading_of(winding, test) for test in tests) for winding in windings]
    # Some tests part as much as all of them exactly if they leave as many kinds of windings unlike.
    kinds = sorted(set(readings))
    places = list(range(len(tests)))
    for many in range(len(tests)):
        for chosen in combinations(places, many):
            if len({tuple(kind[place] for place in chosen) for kind in kinds}) == len(kinds):
                return chosen
    return tuple(places)
