"""The star of a harmonic: directions of slots, the choices of conductors that take up most, belts."""

from slotstars.errors import InvalidNumber, InvalidRoom, InvalidSight, NoBelts, NoChoice, NotAChoice
from slotstars.harmonics import order_of, size_at
from slotstars.roots import compare_real
from slotstars.rows import check_phase, check_phases, check_same_slots, check_slots, is_row
from slotstars.wholes import check_number, is_whole, is_within

NARROW = (1, 3, 5)


def _is_space(value):
    """Whether it is a tuple that tells how many conductors may lie in each slot."""
    return is_row(value) and min(value) >= 0


def check_room(room):
    """Raises InvalidRoom for what is no room."""
    if not (isinstance(room, tuple) and len(room) == 2 and _is_space(room[0]) and _is_space(room[1])):
        raise InvalidRoom(room)
    if len(room[0]) != len(room[1]):
        raise InvalidRoom(room)


def check_many(many):
    """Raises InvalidNumber for no number of conductors of a choice."""
    if not (is_whole(many) and many >= 1):
        raise InvalidNumber(many)


def check_some_choice(room, many):
    """Raises NoChoice if the room has no choice of so many conductors."""
    if min(sum(space) for space in room) < many:
        raise NoChoice()


def check_is_choice(room, many, phase):
    """Raises Unlike for a phase of other slots than the room, NotAChoice if it is not that of a choice."""
    check_same_slots(room[0], phase)
    if not is_choice(room, many, phase):
        raise NotAChoice(phase)


def star(slots, harmonic):
    """The tuple of the slots of each direction."""
    check_slots(slots)
    check_number(harmonic)
    order = order_of(slots, harmonic)
    directions = [[] for _ in range(order)]
    for slot in range(slots):
        directions[harmonic * slot % slots * order // slots].append(slot)
    return tuple(tuple(direction) for direction in directions)


def is_choice(room, many, phase):
    """Whether the phase is that of a choice of so many conductors."""
    check_room(room)
    check_many(many)
    check_phase(phase)
    check_same_slots(room[0], phase)
    least = sum(max(0, number) for number in phase)
    most = 0
    for forward, backward, number in zip(room[0], room[1], phase):
        if number > forward or number < - backward:
            return False
        most += min(forward, backward + number)
    return least <= many <= most


def _near_slots(directions, sight):
    """All slots, from the direction nearest to the sight on."""
    order = len(directions)
    turn = 4 * order
    # In 4 N-th parts of a turn, so that the sights lie between the directions.
    aheads = [(4 * place - 2 * sight - 1) % turn for place in range(order)]
    nearest = sorted([(min(ahead, turn - ahead), place) for place, ahead in enumerate(aheads)])
    return [slot for _, place in nearest for slot in directions[place]]


def _taken(space, many, slots):
    """How many conductors of so many lie in each slot if the slots are filled one after another."""
    row = [0] * len(space)
    for slot in slots:
        row[slot] = min(many, space[slot])
        many -= row[slot]
    return row


def _gathered(room, many, directions, sight):
    """The phase of the choice that is gathered at the sight."""
    forward = _taken(room[0], many, _near_slots(directions, sight))
    backward = _taken(room[1], many, _near_slots(directions, sight + len(directions)))
    return tuple(coming - going for coming, going in zip(forward, backward))


def gathered(room, many, harmonic, sight):
    """The phase of the choice of so many conductors that is gathered at the sight."""
    check_room(room)
    check_many(many)
    check_number(harmonic)
    slots = len(room[0])
    if not is_within(sight, 0, 2 * order_of(slots, harmonic) - 1):
        raise InvalidSight(sight)
    check_some_choice(room, many)
    return _gathered(room, many, star(slots, harmonic), sight)


def strongest(room, many, harmonic):
    """The pair of the least sight at which the gathered choice has the greatest size, and its phase."""
    check_room(room)
    check_many(many)
    check_number(harmonic)
    check_some_choice(room, many)
    directions = star(len(room[0]), harmonic)
    best_sight = 0
    best = _gathered(room, many, directions, best_sight)
    greatest = size_at(best, harmonic)
    for sight in range(1, 2 * len(directions)):
        phase = _gathered(room, many, directions, sight)
        size = size_at(phase, harmonic)
        if compare_real(size, greatest) > 0:
            best_sight, best, greatest = sight, phase, size
    return (best_sight, best)


def greatest_size(room, many, harmonic):
    """The greatest size of a choice of so many conductors, a sum of the order Z."""
    _, phase = strongest(room, many, harmonic)
    return size_at(phase, harmonic)


def better_choice(room, many, harmonic, phase):
    """The phase of the strongest choice if its size is greater than that of the phase; None otherwise."""
    check_room(room)
    check_many(many)
    check_number(harmonic)
    check_phase(phase)
    check_is_choice(room, many, phase)
    _, best = strongest(room, many, harmonic)
    if compare_real(size_at(best, harmonic), size_at(phase, harmonic)) > 0:
        return best
    return None


def _belts(slots, harmonic, many):
    """For each slot the index of the part of the turn, one of so many, in which its direction lies."""
    order = order_of(slots, harmonic)
    return [many * (harmonic * slot % slots * order // slots) // order for slot in range(slots)]


def wide_belts(slots, harmonic, phases):
    """The rows of the wide belts."""
    check_slots(slots)
    check_number(harmonic)
    check_phases(phases)
    if order_of(slots, harmonic) % phases != 0:
        raise NoBelts()
    places = _belts(slots, harmonic, phases)
    return tuple(tuple(1 if place == belt else 0 for place in places) for belt in range(phases))


def narrow_belts(slots, harmonic, phases):
    """The rows of the narrow belts."""
    check_slots(slots)
    check_number(harmonic)
    if not (is_whole(phases) and phases in NARROW):
        raise InvalidNumber(phases)
    if order_of(slots, harmonic) % phases != 0:
        raise NoBelts()
    sectors = _belts(slots, harmonic, 2 * phases)
    rows = []
    for belt in range(phases):
        opposite = (2 * belt + phases) % (2 * phases)
        rows.append(tuple(_sign_in(sector, 2 * belt, opposite) for sector in sectors))
    return tuple(rows)


def _sign_in(sector, forward, backward):
    """1 in the sector of the conductors that come, -1 in that of those that go, 0 elsewhere."""
    if sector == forward:
        return 1
    return -1 if sector == backward else 0
