"""Rows done and rounds begun: the numbers and the steps of runs (3.1), and when they are too many (3.2)."""

from howhigh.errors import TooLong
from howhigh.sums import total, value

MOST_STEPS = 10000


def greatest_allowed():
    """10 to the power 1000."""
    out = 1
    for _ in range(20):
        out = out * 10 ** 50
    return out


def number_behind(row, numbers):
    """The number of the name of a row behind it, done with these numbers."""
    word, name, content = row
    if word == "set":
        return total(content, numbers)
    if word == "add":
        return numbers[name] + total(content, numbers)
    coefficient, product = content
    return max(numbers[name], coefficient * value(product, numbers))


class Tally:
    """The numbers and the steps of a run; begun with such, of which it keeps copies."""

    def __init__(self, held, steps):
        self.held = dict(held)
        self.steps = steps
        self._greatest = greatest_allowed()

    def do_row(self, row):
        """Do a row: TooLong if it is a step too many or its number too great."""
        self._step()
        number = number_behind(row, self.held)
        if number > self._greatest:
            raise TooLong()
        self.held[row[1]] = number

    def begin_round(self):
        """Begin a round: TooLong if it is a step too many."""
        self._step()

    def _step(self):
        if self.steps >= MOST_STEPS:
            raise TooLong()
        self.steps += 1
