"""Claims of all words for the tests of the checker: whether they are so, told by searches and complex numbers."""

import cmath
import math
from itertools import product

from makers import RATES, all_phases, any_phase, any_row, divisors, root
from slotstars import copies, points, polygons
from some_windings import FULL, LONE, SHORT, belted, place, random_winding, repeating_winding

NEAR = 1e-7


def takes(row, h):
    """What a row takes up, a complex number."""
    return sum(number * root(len(row), h * slot) for slot, number in enumerate(row))


def size(row, h):
    """The size of what a row takes up, a float."""
    return abs(takes(row, h)) ** 2


def sign(number):
    """The sign of a float."""
    return 0 if abs(number) < NEAR else 1 if number > 0 else -1


def harmonics_of(slots, orders):
    """All harmonics of these orders, from 0 to Z - 1."""
    return [h for h in range(slots) if slots // math.gcd(h, slots) in orders]


def has(row, orders):
    """Whether a row has a harmonic of one of these orders."""
    return any(sign(size(row, h)) for h in harmonics_of(len(row), orders))


def rate_of(winding, h):
    """The rate with which a winding is balanced at a harmonic; None if there is none."""
    sums = [takes(phase, h) for phase in winding]
    if sign(abs(sums[0])) == 0:
        return None
    for rate in RATES[:1] if len(winding) == 1 else RATES:
        if all(abs(sums[k + 1] - root(*rate) * sums[k]) < NEAR for k in range(len(sums) - 1)):
            return rate
    return None


def takes_some(winding, h):
    """Whether some phase takes up something of a harmonic."""
    return any(sign(size(phase, h)) for phase in winding)


def is_full(winding, many):
    """Whether in each slot the sizes add up to so many."""
    return all(sum(map(abs, numbers)) == many for numbers in zip(*winding))


def real_currents(phases, kind, angle):
    """Currents of a kind for an angle."""
    if kind == "any":
        return [math.cos(3 * k * k + angle) for k in range(phases)]
    if kind == "closed":
        told = [math.cos(3 * k * k + angle) for k in range(phases - 1)]
        return told + [-sum(told)]
    return [(cmath.exp(1j * angle) * root(*kind[1]) ** k).real for k in range(phases)]


def put_by(winding, currents):
    """What a winding puts into the slots."""
    return [sum(i * n for i, n in zip(currents, numbers)) for numbers in zip(*winding)]


def are_alike(winding, other, kind):
    """Whether two windings put the same into each slot, for some many currents of a kind."""
    for k in range(2 * len(winding) + 2):
        currents = real_currents(len(winding), kind, 0.7 * k + 0.1)
        if any(abs(a - b) > NEAR for a, b in zip(put_by(winding, currents), put_by(other, currents))):
            return False
    return True


def are_alike_at(winding, other, kind, h):
    """Whether what they put takes up the same of a harmonic, for some many currents of a kind."""
    for k in range(2 * len(winding) + 2):
        currents = real_currents(len(winding), kind, 0.7 * k + 0.1)
        if abs(takes(put_by(winding, currents), h) - takes(put_by(other, currents), h)) > NEAR:
            return False
    return True


def are_quiet(ways, orders):
    """Whether ways take up the same of all harmonics of these orders."""
    return all(abs(takes(way, h) - takes(ways[0], h)) < NEAR for way in ways for h in harmonics_of(len(ways[0]), orders))


def added(rows):
    """The sum of rows."""
    return tuple(sum(numbers) for numbers in zip(*rows))


def ways_of(groups, sharing):
    """The ways that a sharing makes."""
    return [added([row for row, way in zip(groups, sharing) if way == told]) for told in range(max(sharing) + 1)]


def sharings(groups, many, orders):
    """All sharings into so many quiet ways."""
    told = [sharing for sharing in product(range(many), repeat=len(groups)) if max(sharing) == many - 1]
    told = [sharing for sharing in told if all(way <= max((-1, *sharing[:k])) + 1 for k, way in enumerate(sharing))]
    return [sharing for sharing in told if are_quiet(ways_of(groups, sharing), orders)]


def joined(groups, phases, joining):
    """The winding of a joining."""
    zero = (0,) * len(groups[0])
    return tuple(added([zero] + [tuple(e * n for n in row) for row, (k, e) in zip(groups, joining) if k == phase])
                 for phase in range(phases))


def joinings(groups, phases, h, rate):
    """All joinings that are balanced so."""
    places = [(k, e) for k in range(phases) for e in (1, -1)]
    return [told for told in product(places, repeat=len(groups)) if rate_of(joined(groups, phases, told), h) == rate]


def reading(winding, test):
    """The reading of a test, a float."""
    return size(added([tuple(e * n for n in phase) for phase, e in zip(winding, test[0])]), test[1])


def parting_tests(winding, other):
    """All tests, with harmonics from 0 to Z - 1, that part two windings."""
    signs = [told for told in product((-1, 0, 1), repeat=len(winding)) if any(told)]
    return [(told, h) for told in signs for h in range(len(winding[0]))
            if sign(reading(winding, (told, h)) - reading(other, (told, h)))]


def choices(room, many):
    """The phases of all choices of so many conductors."""
    taken = [[told for told in product(*[range(number + 1) for number in space]) if sum(told) == many]
             for space in room]
    return sorted({tuple(a - b for a, b in zip(*pair)) for pair in product(*taken)})


def all_starts(phase, span):
    """Starts of which a phase is made with the span, for all numbers that matter in each class."""
    slots = len(phase)
    many = math.gcd(span, slots)
    first = [0] * slots
    for start in range(many):
        slot = start
        for _ in range(slots // many - 1):
            following = (slot + span) % slots
            first[following] = first[slot] + phase[following]
            slot = following
    reach = max(map(abs, first))
    return [tuple(number + shifts[slot % many] for slot, number in enumerate(first))
            for shifts in product(range(-reach, reach + 1), repeat=many)]


def phase_of(starts, span):
    """The phase of starts and a span."""
    return tuple(number - starts[slot - span] for slot, number in enumerate(starts))


def least_ends(phase):
    """The least ends of a phase, by its flow."""
    sums = [sum(phase[:slot]) for slot in range(len(phase))]
    return min(sum(abs(number - level) for number in sums) for level in sums)


def wave(winding, h):
    """V(h), a complex number."""
    slots = len(winding[0])
    return sum(place(point) * root(slots, h * k) for k, point in enumerate(polygons.slot_points(winding)))


def waves(winding, reach):
    """All waves that are there with no more than so many pairs of poles."""
    return [h for h in range(-reach, reach + 1) if abs(wave(winding, h)) > NEAR]


def leak(winding, h):
    """The leak of a wave, a float."""
    above, below = polygons.mean_square(winding)
    return above / below * 4 * math.pi ** 2 * h * h / abs(wave(winding, h)) ** 2 - 1


def is_repeat(winding, turn, sixths):
    """Whether (turn, sixths) is a repeat."""
    told = polygons.slot_points(winding)
    slots = len(told)
    return all(told[(k + turn) % slots] == points.turned_point(told[k], sixths) for k in range(slots))


def pulled_moments(winding):
    """The moments from 0 to 11 at which a machine is pulled."""
    polygon = [place(point) for point in polygons.polygon(winding)]
    reach = 1 + sum(abs(point) ** 2 for point in polygon)
    told = []
    for moment in range(12):
        force = [(root(12, moment) * point).real ** 2 for point in polygon]
        told += [moment] if abs(takes(force, 1)) > NEAR * reach else []
    return told


def is_ripple(winding, pairs, many):
    """Whether a ripple of so many times twice the frequency comes with some rotor."""
    return any(abs(wave(winding, pairs * (1 + 2 * turn * many))) > NEAR for turn in (1, -1))


class Claims:
    """A list of (claim, whether it is so, right papers): all claims that exclude one another, both ways."""

    def __init__(self, chance):
        self.chance = chance
        self.told = []
        for made in (self.of_rows, self.of_phases, self.of_balance, self.of_full, self.of_alike, self.of_ways,
                     self.of_joinings, self.of_choices, self.of_spans, self.of_waves, self.of_forces):
            made()

    def add(self, claim, is_so, papers=((),)):
        self.told.append((claim, bool(is_so), list(papers) if is_so else []))

    def add_both(self, words, told, is_so, papers=((),), other_papers=((),)):
        self.add((words[0], *told), is_so, papers)
        self.add((words[1], *told), not is_so, other_papers)

    def of_rows(self):
        for slots in (2, 3, 4, 6, 9):
            short = any_phase(self.chance, slots, 1)
            some = [any_row(self.chance, slots, 2), any_phase(self.chance, slots, 2), (0,) * slots, short,
                    short[1:] + short[:1], short[::-1], (1,) * slots]
            for row in some:
                for h in (0, 1, 2, -3, slots):
                    self.add_both(("there", "gone"), (row, h), sign(size(row, h)))
                for orders in ((), (1,), tuple(divisors(slots)), (slots,), (slots, 1)):
                    here = [order for order in orders if has(row, (order,))]
                    shares = (row,) if orders == () else [()] if len(orders) == len(divisors(slots)) else None
                    self.add(("has", row, orders), here, here)
                    if shares is not None or here:
                        self.add(("lacks", row, orders), not here, shares or ())
                for other in some:
                    for h, twin in ((1, 1), (0, 2), (-1, 1)):
                        told = sign(size(row, h) - size(other, twin))
                        for number in (-1, 0, 1, 2):
                            self.add(("sizes", row, h, other, twin, number), told == number)
                    unlike = [h for h in range(-1, slots) if sign(size(row, h) - size(other, h))]
                    self.add_both(("same sizes", "unlike sizes"), (row, other), not unlike, other_papers=unlike)

    def of_phases(self):
        for slots in (2, 3, 4, 6):
            phases = all_phases(slots)
            for h in range(-1, slots + 1):
                for orders in ((), (1,), (2,) if slots % 2 == 0 else (3,), (slots,), tuple(divisors(slots)[:2])):
                    found = [phase for phase in phases if sign(size(phase, h)) and not has(phase, orders)]
                    self.add_both(("phase with", "no phase with"), (slots, h, orders), found, found[:3])

    def of_balance(self):
        some = [FULL, SHORT, FULL[:1], FULL[:2], LONE, (FULL[0],) * 2, ((0, 0, 0),) * 3, FULL[::-1], ((1, -1),)]
        some += [tuple(any_phase(self.chance, 4, 1) for _ in range(2)) for _ in range(4)]
        for winding in some:
            slots = len(winding[0])
            worst = False
            for h in range(-1, slots + 2):
                told = rate_of(winding, h)
                for rate in RATES:
                    self.add(("balanced", winding, h, rate), told == rate)
                self.add(("unbalanced", winding, h), told is None and takes_some(winding, h))
                self.add(("nothing", winding, h), not takes_some(winding, h))
                worst = worst or told is None and takes_some(winding, h)
            self.add(("always balanced", winding), not worst)
            for step in ((s, e) for s in range(slots) for e in (1, -1)):
                told = all(winding[k] == tuple(step[1] * winding[k - 1][s - step[0]] for s in range(slots))
                           for k in range(len(winding)))
                self.add_both(("has step", "no step"), (winding, step), told)

    def of_full(self):
        for slots, phases in ((2, 1), (3, 1), (4, 2), (3, 3), (4, 1), (6, 2)):
            reach = all_phases(slots)
            windings = list(product(reach, repeat=phases)) if slots < 6 else []
            for h in (0, 1, 2, -1):
                for rate in RATES:
                    order = slots // math.gcd(h, slots)
                    fits = order % rate[0] == 0 or order % 2 == 1 and 2 * order % rate[0] == 0
                    able = order > 1 and (rate[0] == 1 if phases == 1 else fits)
                    found = [winding for winding in windings if rate_of(winding, h) == rate]
                    if slots < 6:
                        self.add_both(("can balance", "cannot balance"), (slots, phases, h, rate), able, found[:2])
                    for many in (1, 2):
                        self.add_full(slots, phases, many, h, rate)

    def add_full(self, slots, phases, many, h, rate):
        if slots > 4 or many == 2 and phases == 1:
            return
        rows = [row for row in product(range(-many, many + 1), repeat=slots) if sum(row) == 0]
        steps = [(s, e) for s in range(slots) for e in (1, -1)]
        copied = [(copies.copied_winding(row, phases, step), step) for row in rows for step in steps]
        found = [pair for pair in copied if pair[0] is not None and is_full(pair[0], many) and rate_of(pair[0], h) == rate]
        self.add_both(("full", "not full"), (slots, phases, many, h, rate), found, found[:2])

    def of_alike(self):
        more = ((2, -1, 0, -1, 0, 0), (1, -1, 1, 0, 0, -1), (1, -2, 0, 0, 1, 0))
        pairs = [(FULL, FULL), (FULL, more), (FULL, SHORT), (FULL, FULL[::-1]), (FULL[:2], SHORT[:2]), (FULL[:1], SHORT[:1])]
        for winding, other in pairs:
            for kind in ("any", "closed", ("even", (3, 1)), ("even", (3, 2)), ("even", (2, 1)), ("even", (5, 3))):
                unlike = [h for h in range(-7, 8) if not are_alike_at(winding, other, kind, h)]
                told = are_alike(winding, other, kind)
                self.add_both(("alike", "unlike"), (winding, other, kind), told, other_papers=unlike)
            tests = parting_tests(winding, other)
            self.add_both(("parted", "never parted"), (winding, other), tests, tests)

    def of_ways(self):
        near = (1, 0, 0, -1, 0, 0, 0, 0, 0, 0, 0, 0)
        groups = [near[-turn:] + near[:-turn] for turn in (12, 6, 1, 7, 2)]
        for told in (tuple(groups[:2]), tuple(groups[:4]), (near,) * 3, tuple(groups)):
            for orders in ((), (1, 2, 3, 6), (4, 12), (2, 4), (12,), (3,)):
                loud = [order for order in orders if not are_quiet(told, (order,))]
                self.add_both(("quiet", "loud"), (told, orders), not loud, other_papers=loud)
                for many in (1, 2, 3, 6):
                    found = sharings(told, many, orders)
                    self.add_both(("shares", "no sharing"), (told, many, orders), found, found[:3])

    def of_joinings(self):
        for groups, phases in ((FULL, 3), (FULL, 2), (SHORT[:2], 2), (FULL[:1], 1), ((LONE[0], LONE[0]), 1)):
            for h in (0, 1, 2, 3, -1):
                for rate in RATES:
                    found = joinings(groups, phases, h, rate)
                    self.add_both(("joins", "no joining"), (groups, phases, h, rate), found, found[:4])

    def of_choices(self):
        for room in (((2, 0, 1, 0), (0, 1, 0, 2)), ((1, 1, 1), (1, 1, 1)), ((0, 2), (1, 1)), ((1, 1, 2, 0), (1, 0, 1, 2))):
            for many in (1, 2):
                told = choices(room, many)
                for h in (0, 1, 2, -1):
                    greatest = max([size(phase, h) for phase in told], default=0)
                    for phase in told:
                        better = [other for other in told if size(other, h) > size(phase, h) + NEAR]
                        self.add_both(("better", "greatest"), (room, many, h, phase), better, better)
                        assert bool(better) == (greatest > size(phase, h) + NEAR)

    def of_spans(self):
        for slots in (3, 4, 6):
            some = [any_phase(self.chance, slots, 1) for _ in range(3)]
            some += [phase_of(any_row(self.chance, slots, 1), span) for span in (1, 2)] + [(0,) * slots]
            for phase in some:
                for span in range(1, slots):
                    many = math.gcd(span, slots)
                    wrong = [slot for slot in range(slots) if sum(phase[slot % many::many])]
                    found = [] if wrong else [told for told in all_starts(phase, span) if phase_of(told, span) == phase]
                    self.add_both(("of span", "not of span"), (phase, span), found, found[:3], wrong)
                    least = min([sum(map(abs, told)) for told in found], default=None)
                    for number in range(-1, 5):
                        fewest = [told for told in found if sum(map(abs, told)) == least]
                        self.add(("fewest", phase, span, number), number == least, fewest)
                ends = least_ends(phase)
                for number in (ends - 1, ends, ends + 1):
                    self.add(("ends", phase, number), False)
                self.told[-2] = (("ends", phase, ends), True, None)

    def some_windings(self):
        told = [FULL, SHORT, LONE, FULL[::-1], ((0, 0),) * 3, (FULL[0],) * 3, ((1, -1), (0, 0), (0, 0)), belted(12, 1)]
        told += [random_winding(self.chance, slots, 1) for slots in (3, 4, 5, 6)]
        return told + [repeating_winding(self.chance, 8, 4), repeating_winding(self.chance, 6, 2)]

    def of_waves(self):
        for winding in self.some_windings():
            slots = len(winding[0])
            there = waves(winding, 2 * slots)
            for h in range(-slots - 1, slots + 2):
                self.add_both(("wave", "no wave"), (winding, h), h in there)
                if h in there:
                    told = leak(winding, h)
                    for fraction in ((0, 1), (-1, 3), (int(told) + 1, 1), (int(told * 1000) + 1, 1000), (int(told), 1)):
                        if math.gcd(*fraction) == 1:
                            self.add_both(("leak below", "leak above"), (winding, h, fraction),
                                          told < fraction[0] / fraction[1])
            for many in range(1, slots + 3):
                for rest in range(many):
                    self.add(("alike waves", winding, many, rest), all(h % many == rest for h in there))
                unlike = [(h, k) for h in there for k in there if (h - k) % many]
                self.add(("two waves", winding, many), unlike, unlike[:2] + unlike[-2:])
            for turn in (*range(-2, slots + 1), 3 * slots):
                for sixths in range(-1, 7):
                    self.add_both(("repeat", "no repeat"), (winding, turn, sixths), is_repeat(winding, turn, sixths))

    def of_forces(self):
        for winding in self.some_windings():
            pulled = pulled_moments(winding)
            self.add_both(("pull", "no pull"), (winding,), pulled, pulled)
            for pairs in (1, 2, 5, 60):
                for many in (0, 1, 2, 3, 7):
                    self.add_both(("ripple", "no ripple"), (winding, pairs, many), is_ripple(winding, pairs, many))
