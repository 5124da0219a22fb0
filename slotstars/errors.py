"""All errors of the package: each keeps what it is made with."""


class SlotError(ValueError):
    """The base of all errors of this package."""


class InvalidSum(SlotError):
    """What was given is no sum."""
    def __init__(self, given):
        self.given = given


class InvalidOrder(SlotError):
    """What was given is no order of a sum."""
    def __init__(self, given):
        self.given = given


class InvalidNumbers(SlotError):
    """What was given are no numbers of a sum."""
    def __init__(self, given):
        self.given = given


class InvalidNumber(SlotError):
    """What was given is no whole number of the told kind."""
    def __init__(self, given):
        self.given = given


class InvalidFraction(SlotError):
    """What was given is no reduced fraction."""
    def __init__(self, given):
        self.given = given


class InvalidRow(SlotError):
    """What was given is no row."""
    def __init__(self, given):
        self.given = given


class InvalidPhase(SlotError):
    """What was given is no phase."""
    def __init__(self, given):
        self.given = given


class InvalidSlots(SlotError):
    """What was given is no number of slots."""
    def __init__(self, given):
        self.given = given


class InvalidRate(SlotError):
    """What was given is no rate."""
    def __init__(self, given):
        self.given = given


class InvalidStep(SlotError):
    """What was given is no step of as many slots."""
    def __init__(self, given):
        self.given = given


class InvalidCurrents(SlotError):
    """What was given is no kind of currents."""
    def __init__(self, given):
        self.given = given


class InvalidSharing(SlotError):
    """What was given is no sharing of the groups."""
    def __init__(self, given):
        self.given = given


class InvalidJoining(SlotError):
    """What was given is no joining of the groups."""
    def __init__(self, given):
        self.given = given


class InvalidWrong(SlotError):
    """What was given is no wrong of the coils."""
    def __init__(self, given):
        self.given = given


class InvalidTest(SlotError):
    """What was given is no test of as many phases."""
    def __init__(self, given):
        self.given = given


class InvalidFinding(SlotError):
    """What was given is no finding."""
    def __init__(self, given):
        self.given = given


class InvalidRoom(SlotError):
    """What was given is no room."""
    def __init__(self, given):
        self.given = given


class InvalidSight(SlotError):
    """What was given is no sight of the star."""
    def __init__(self, given):
        self.given = given


class InvalidSpan(SlotError):
    """What was given is no span."""
    def __init__(self, given):
        self.given = given


class InvalidSlot(SlotError):
    """What was given is no slot of the machine."""
    def __init__(self, given):
        self.given = given


class InvalidPoint(SlotError):
    """What was given is no point."""
    def __init__(self, given):
        self.given = given


class InvalidMoment(SlotError):
    """What was given is no moment."""
    def __init__(self, given):
        self.given = given


class InvalidPairs(SlotError):
    """What was given is no number of pairs."""
    def __init__(self, given):
        self.given = given


class InvalidName(SlotError):
    """What was given is no name."""
    def __init__(self, given):
        self.given = given


class InvalidWish(SlotError):
    """What was given is no wish."""
    def __init__(self, given):
        self.given = given


class InvalidIndex(SlotError):
    """What was given is no index of a wish."""
    def __init__(self, given):
        self.given = given


class InvalidPhrase(SlotError):
    """What was given is no phrase."""
    def __init__(self, given):
        self.given = given


class Unlike(SlotError):
    """What was given does not fit to what came before it."""
    def __init__(self, given):
        self.given = given


class NoMultiple(SlotError):
    """The given order is no multiple of that of the sum."""
    def __init__(self, given):
        self.given = given


class NoDivisor(SlotError):
    """The given order is no divisor of that of the sum."""
    def __init__(self, given):
        self.given = given


class NotReal(SlotError):
    """The given sum is not real."""
    def __init__(self, given):
        self.given = given


class TooMany(SlotError):
    """There are as many as given, and these are too many."""
    def __init__(self, given):
        self.given = given


class NotAChoice(SlotError):
    """The given phase is that of no choice."""
    def __init__(self, given):
        self.given = given


class NotThree(SlotError):
    """There are as many phases as given, not three."""
    def __init__(self, given):
        self.given = given


class UnknownName(SlotError):
    """The given name is none here."""
    def __init__(self, given):
        self.given = given


class NotAWorkshop(SlotError):
    """What was given is no workshop."""
    def __init__(self, given):
        self.given = given


class InvalidWinding(SlotError):
    """The element of the index is wrong in a winding."""
    def __init__(self, index):
        self.index = index


class InvalidCoils(SlotError):
    """The element of the index is wrong in coils."""
    def __init__(self, index):
        self.index = index


class InvalidOrders(SlotError):
    """The element of the index is wrong in orders."""
    def __init__(self, index):
        self.index = index


class InvalidWays(SlotError):
    """The element of the index is wrong in ways."""
    def __init__(self, index):
        self.index = index


class InvalidGroups(SlotError):
    """The element of the index is wrong in groups."""
    def __init__(self, index):
        self.index = index


class InvalidTests(SlotError):
    """The element of the index is wrong in tests."""
    def __init__(self, index):
        self.index = index


class InvalidFindings(SlotError):
    """The element of the index is wrong in findings."""
    def __init__(self, index):
        self.index = index


class InvalidBelts(SlotError):
    """The element of the index is wrong in belts."""
    def __init__(self, index):
        self.index = index


class InvalidChain(SlotError):
    """The element of the index is wrong in a chain."""
    def __init__(self, index):
        self.index = index


class InUse(SlotError):
    """The wish of the index names it."""
    def __init__(self, index):
        self.index = index


class Broken(SlotError):
    """The wish of the index would not hold."""
    def __init__(self, index):
        self.index = index


class NoChoice(SlotError):
    """There is no choice of so many conductors."""


class NoBelts(SlotError):
    """There are no such belts."""


class NoWave(SlotError):
    """The wave is not there."""


class NoStarts(SlotError):
    """There are no such starts."""


class NothingToUndo(SlotError):
    """There is no change to take back."""
