"""Slots, rows of conductors, phases, windings and coils."""

from slotstars.errors import InvalidCoils, InvalidPhase, InvalidRow, InvalidSlots, InvalidWinding, Unlike
from slotstars.wholes import are_wholes, check_number, check_within, is_within

LEAST_SLOTS = 2
MOST_SLOTS = 60
MOST_PHASES = 6
MOST_COILS = 60


def is_row(value):
    """Whether it is a row, whatever it is."""
    return are_wholes(value) and LEAST_SLOTS <= len(value) <= MOST_SLOTS


def is_phase(value):
    """Whether it is a phase, whatever it is."""
    return is_row(value) and sum(value) == 0


def is_winding(value):
    """Whether it is a winding, whatever it is."""
    return isinstance(value, tuple) and len(value) > 0 and wrong_phase(value, MOST_PHASES) is None


def is_coil(value):
    """Whether it is a coil, whatever it is."""
    if not (are_wholes(value) and len(value) == 4):
        return False
    phase, start, end, turns = value
    if not (is_within(phase, 0, MOST_PHASES - 1) and start != end and turns != 0):
        return False
    return is_within(start, 0, MOST_SLOTS - 1) and is_within(end, 0, MOST_SLOTS - 1)


def wrong_phase(phases, most):
    """The index of the first element that is no phase, or of unlike slots, or one too many; None if there is none."""
    for index, phase in enumerate(phases):
        if index == most or not is_phase(phase) or len(phase) != len(phases[0]):
            return index
    return None


def check_row(row):
    """Raises InvalidRow for what is no row."""
    if not is_row(row):
        raise InvalidRow(row)


def check_phase(phase):
    """Raises InvalidPhase for what is no phase."""
    if not is_phase(phase):
        raise InvalidPhase(phase)


def check_same_slots(row, other):
    """Raises Unlike for a row with another number of slots than the first one."""
    if len(row) != len(other):
        raise Unlike(other)


def check_two_rows(row, other):
    """Raises InvalidRow for what is no row, and Unlike for rows of unlike slots."""
    check_row(row)
    check_row(other)
    check_same_slots(row, other)


def check_winding(winding):
    """Raises InvalidWinding for what is no winding."""
    if not isinstance(winding, tuple) or len(winding) == 0:
        raise InvalidWinding(None)
    wrong = wrong_phase(winding, MOST_PHASES)
    if wrong is not None:
        raise InvalidWinding(wrong)


def check_slots(slots):
    """Raises InvalidSlots for what is no number of slots."""
    if not is_within(slots, LEAST_SLOTS, MOST_SLOTS):
        raise InvalidSlots(slots)


def check_phases(phases):
    """Raises InvalidNumber for what is no number of phases."""
    check_within(phases, 1, MOST_PHASES)


def check_coils(coils):
    """Raises InvalidCoils for what are no coils, whatever slots there are."""
    if not isinstance(coils, tuple):
        raise InvalidCoils(None)
    for index, coil in enumerate(coils):
        if index == MOST_COILS or not is_coil(coil):
            raise InvalidCoils(index)


def check_coils_fit(coils, slots, phases):
    """Raises InvalidCoils for coils with a phase or a slot that is not there."""
    for index, (phase, start, end, _) in enumerate(coils):
        if phase >= phases or start >= slots or end >= slots:
            raise InvalidCoils(index)


def winding_of(coils, slots, phases):
    """The winding of so many phases that the coils make."""
    check_coils(coils)
    check_slots(slots)
    check_phases(phases)
    check_coils_fit(coils, slots, phases)
    rows = [[0] * slots for _ in range(phases)]
    for phase, start, end, turns in coils:
        rows[phase][start] += turns
        rows[phase][end] -= turns
    return tuple(tuple(row) for row in rows)


def some_coils(phase):
    """Coils of the phase 0 that make the phase: from each slot to the next one, but the last."""
    check_phase(phase)
    coils = []
    turns = 0
    for slot, number in enumerate(phase[:-1]):
        turns += number
        if turns != 0:
            coils.append((0, slot, slot + 1, turns))
    return tuple(coils)


def turned_row(row, turn):
    """The row that has in each slot s what stood in s - turn."""
    check_row(row)
    check_number(turn)
    first = - turn % len(row)
    return row[first:] + row[:first]


def mirrored_row(row):
    """The row that has in each slot s what stood in - s."""
    check_row(row)
    return row[:1] + row[:0:-1]


def added_rows(row, other):
    """The sum of two rows."""
    check_two_rows(row, other)
    return tuple(left + right for left, right in zip(row, other))


def scaled_row(row, many):
    """The row with each number times a whole number."""
    check_row(row)
    check_number(many)
    return tuple(number * many for number in row)


def conductors_of(row):
    """The sum of the sizes of the numbers of the row."""
    check_row(row)
    return sum(abs(number) for number in row)


def differences_of(row):
    """The sums of all row[s] * row[s + d], for each d."""
    check_row(row)
    return tuple(
        sum(left * right for left, right in zip(row, row[step:] + row[:step])) for step in range(len(row))
    )
