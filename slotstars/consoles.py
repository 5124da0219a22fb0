"""Consoles: lines of text that change a workshop or ask something of its windings, and their answers."""

from slotstars.balance import rate_at, unbalancing_harmonic
from slotstars.copies import steps_of
from slotstars.errors import InvalidPhrase, NotAWorkshop
from slotstars.harmonics import has_order
from slotstars.rows import is_winding
from slotstars.wholes import divisors_of
from slotstars.wishes import is_name
from slotstars.workshops import Workshop

DONE = "done"
NONE = "none"


def _text_of_number(number):
    # Figure by figure, as Python refuses to write some thousands of them at once.
    left = abs(number)
    figures = []
    while left > 9:
        left, last = divmod(left, 10)
        figures.append(str(last))
    figures.append(str(left))
    return ("-" if number < 0 else "") + "".join(figures[::-1])


def _number_of_text(text):
    """The whole number that Python writes so; None if it writes none so."""
    figures = text[1:] if text.startswith("-") else text
    if len(figures) == 0 or not all("0" <= figure <= "9" for figure in figures):
        return None
    if figures.startswith("0") and text != "0":
        return None
    number = 0
    for figure in figures:
        number = 10 * number + int(figure)
    return - number if text.startswith("-") else number


def _text_of_rows(rows):
    """The numbers of each row with blanks between, the rows parted by semicolons; a word if there are no rows."""
    texts = [" ".join([_text_of_number(number) for number in row]) for row in rows]
    return "; ".join(texts) if len(texts) > 0 else NONE


def _winding_of_text(text):
    """The winding with this text; None if there is none."""
    rows = [[_number_of_text(part) for part in phase.split(" ")] for phase in text.split("; ")]
    winding = tuple(tuple(row) for row in rows)
    return winding if is_winding(winding) else None


def _orders_text(winding):
    orders = [order for order in divisors_of(len(winding[0])) if any(has_order(phase, order) for phase in winding)]
    return _text_of_rows([orders]) if len(orders) > 0 else NONE


def _steps_text(winding):
    return _text_of_rows(steps_of(winding))


def _unbalanced_text(winding):
    harmonic = unbalancing_harmonic(winding)
    return NONE if harmonic is None else _text_of_number(harmonic)


def _rate_text(winding, harmonic):
    rate = rate_at(winding, harmonic)
    return NONE if rate is None else _text_of_rows([rate])


# What a line that is a word and a name asks of the winding.
QUESTIONS = {
    "winding": _text_of_rows,
    "orders": _orders_text,
    "steps": _steps_text,
    "unbalanced": _unbalanced_text,
}


class Console:
    """Takes lines for one workshop."""
    def __init__(self, shop):
        if not isinstance(shop, Workshop):
            raise NotAWorkshop(shop)
        self.shop = shop

    def say(self, line):
        """Does what the line says, and returns the answer."""
        if not isinstance(line, str):
            raise InvalidPhrase(line)
        if line == "undo":
            self.shop.undo()
            return DONE
        if line == "names":
            return " ".join(list(self.shop.names) or [NONE])
        word, _, rest = line.partition(" ")
        name, colon, told = rest.partition(": ")
        if not is_name(name):
            raise InvalidPhrase(line)
        if colon == "":
            return self._answer(line, word, name)
        return self._answer_told(line, word, name, told)

    def _answer(self, line, word, name):
        """The answer to a line that is a word and a name."""
        if word == "drop":
            self.shop.drop(name)
            return DONE
        if word not in QUESTIONS:
            raise InvalidPhrase(line)
        question = QUESTIONS[word]
        return question(self.shop.named(name))

    def _answer_told(self, line, word, name, told):
        """The answer to a line that is a word, a name and what is told behind it."""
        if word == "put":
            winding = _winding_of_text(told)
            if winding is None:
                raise InvalidPhrase(line)
            self.shop.put(name, winding)
            return DONE
        harmonic = _number_of_text(told)
        if word != "rate" or harmonic is None:
            raise InvalidPhrase(line)
        return _rate_text(self.shop.named(name), harmonic)
