"""Steps, by which each phase is a copy of the one before it, and full windings that have them."""

from math import comb, gcd

from slotstars.balance import check_rate, rate_of_turn
from slotstars.errors import InvalidStep
from slotstars.harmonics import is_there
from slotstars.rows import check_phase, check_phases, check_slots, check_winding, scaled_row, turned_row
from slotstars.wholes import are_wholes, check_number, check_within, is_within, powered

MOST_CONDUCTORS = 60


def is_step(value, slots):
    """Whether it is a step of so many slots, whatever it is."""
    if not (are_wholes(value) and len(value) == 2):
        return False
    return is_within(value[0], 0, slots - 1) and value[1] in (1, -1)


def check_step(step, slots):
    """Raises InvalidStep for what is no step of so many slots."""
    if not is_step(step, slots):
        raise InvalidStep(step)


def check_conductors(conductors):
    """Raises InvalidNumber for what is no number of conductors of a slot."""
    check_within(conductors, 1, MOST_CONDUCTORS)


def all_steps(slots):
    """The ascending list of all steps of so many slots."""
    return [(turn, sign) for turn in range(slots) for sign in (-1, 1)]


def stepped(row, step):
    """The row turned and multiplied as the step says."""
    turn, sign = step
    return scaled_row(turned_row(row, turn), sign)


def has_step(winding, step):
    """Whether each phase of the winding is made by the step from the one before it, the first one from the last."""
    return all(stepped(winding[index - 1], step) == phase for index, phase in enumerate(winding))


def steps_of(winding):
    """The ascending tuple of all steps of the winding."""
    check_winding(winding)
    return tuple(step for step in all_steps(len(winding[0])) if has_step(winding, step))


def rate_of_step(slots, harmonic, step):
    """The rate that stands for what the step makes of the harmonic; None if this root has an order above 6."""
    check_slots(slots)
    check_number(harmonic)
    check_step(step, slots)
    turn, sign = step
    return rate_of_turn(slots, harmonic, turn, sign)


def copied_winding(phase, phases, step):
    """The winding of so many phases with this first phase and this step; None if there is none."""
    check_phase(phase)
    check_phases(phases)
    check_step(step, len(phase))
    winding = [phase]
    for _ in range(phases - 1):
        winding.append(stepped(winding[-1], step))
    if stepped(winding[-1], step) != phase:
        return None
    return tuple(winding)


def is_full(winding, conductors):
    """Whether the sizes of the numbers in each slot add up to so many conductors."""
    check_winding(winding)
    check_conductors(conductors)
    return all(sum(abs(number) for number in numbers) == conductors for numbers in zip(*winding))


def has_full(slots, phases, conductors, step):
    """Whether there is a full winding with so many conductors in each slot that has the step."""
    check_slots(slots)
    check_phases(phases)
    check_conductors(conductors)
    check_step(step, slots)
    rounds, length, period = _rounds_of(slots, phases, step)
    if conductors * period % phases != 0:
        return False
    if _last_sign(phases, step) == -1:
        return length // period % 2 == 0
    return rounds % 2 == 0 or (conductors * period // phases % 2 == 0 and period > 1)


def _rounds_of(slots, phases, step):
    """The rounds that the step leads through, their length, and the places after which the sizes come again."""
    rounds = gcd(step[0], slots)
    length = slots // rounds
    return rounds, length, gcd(phases, length)


def _last_sign(phases, step):
    """The sign that is left when the step has been taken once for each phase."""
    return -1 if step[1] == -1 and phases % 2 == 1 else 1


def full_steps(slots, phases, conductors, harmonic, rate):
    """The steps that a full winding can have that is balanced at the harmonic with the rate."""
    check_slots(slots)
    check_phases(phases)
    check_conductors(conductors)
    check_number(harmonic)
    check_rate(rate)
    if harmonic % slots == 0 or phases % rate[0] != 0:
        return ()
    return tuple(
        step for step in all_steps(slots)
        if rate_of_step(slots, harmonic, step) == rate and has_full(slots, phases, conductors, step)
    )


def full_winding(slots, phases, conductors, harmonic, rate):
    """A full winding that is balanced so and has a step; None if there is none."""
    steps = full_steps(slots, phases, conductors, harmonic, rate)
    if len(steps) == 0:
        return None
    step = steps[0]
    for signs in _signs_of_rounds(_rounds_of(slots, phases, step)[0], _last_sign(phases, step)):
        phase = _full_phase(slots, phases, conductors, step, signs)
        if is_there(phase, harmonic):
            return copied_winding(phase, phases, step)
    return None


def _signs_of_rounds(rounds, last_sign):
    """Ways to give each round a sign, or 0 for as many conductors coming as going: each harmonic is there with one."""
    if last_sign == -1:
        # The turn multiplies the harmonic by a root other than 1 then, so that rounds with one sign do not cancel.
        return ([1] * rounds,)
    start = rounds % 2
    pairs = rounds // 2
    middle = [0] * start
    if pairs == 0:
        return (middle,)
    # Both ways differ by the signs of two neighbours that are unlike, by something of each harmonic: not both are 0.
    return middle + [1, -1] * pairs, middle + [-1, 1] + [1, -1] * (pairs - 1)


def _full_phase(slots, phases, conductors, step, signs):
    """The first phase of a full winding that has the step, with the told sign of each round."""
    _, length, period = _rounds_of(slots, phases, step)
    last_sign = _last_sign(phases, step)
    many = conductors * period // phases
    row = [0] * slots
    for start, sign in enumerate(signs):
        group = [0] * period
        if sign == 0:
            group[0] = many // 2
            group[1] = - (many // 2)
        else:
            group[0] = sign * many
        for place in range(length):
            change = -1 if last_sign == -1 and place // period % 2 == 1 else 1
            row[(start + place * step[0]) % slots] = change * group[place % period]
    return tuple(row)


def count_full(slots, phases, step):
    """How many full windings with one conductor in each slot have the step."""
    check_slots(slots)
    check_phases(phases)
    check_step(step, slots)
    rounds, length, _ = _rounds_of(slots, phases, step)
    if length % phases != 0:
        return 0
    if _last_sign(phases, step) == -1:
        return powered(2 * phases, rounds) if length // phases % 2 == 0 else 0
    return powered(phases, rounds) * comb(rounds, rounds // 2) if rounds % 2 == 0 else 0
