"""Runs of a program, choice by choice (3.1 to 3.3)."""

from howhigh.errors import BadChoice, BadChoices, NothingDone, Over
from howhigh.kinds import is_row
from howhigh.places import can_choose, first_place, place_behind
from howhigh.starts import check_starts


class Run:
    """A run of the program from the starts: it goes on by itself up to the next choice, or its end."""

    def __init__(self, program, starts):
        check_starts(program, starts)
        self._program = program
        self._starts = dict(starts)
        self._past = []
        self._stand(first_place(program, starts))

    def _stand(self, place):
        self._place = place
        self.choice = place.choice
        self.steps = place.steps

    @property
    def numbers(self):
        """A new dict of the numbers."""
        return dict(self._place.held)

    def choose(self, number):
        """Choose, and go on."""
        if self.choice is None:
            raise Over()
        if not can_choose(self.choice, number):
            raise BadChoice()
        place = place_behind(self._place, number)
        self._past.append((self._place, number))
        self._stand(place)

    def chosen(self):
        """The list of all choices."""
        return [number for place, number in self._past]

    def back(self):
        """Take the last choice back."""
        if not self._past:
            raise NothingDone()
        place, _ = self._past.pop()
        self._stand(place)

    def copy(self):
        """Another run that stands where this one stands, and goes on apart."""
        other = Run(self._program, self._starts)
        other._past = list(self._past)
        other._stand(self._place)
        return other

    def trying(self, action):
        """What the action returns, called with this run, which is put back behind it."""
        past, place = list(self._past), self._place
        choice, steps = self.choice, self.steps
        try:
            return action(self)
        finally:
            self._past, self._place = past, place
            self.choice, self.steps = choice, steps


def played(program, starts, choices):
    """The dict of the numbers at the end of the run with these choices."""
    check_starts(program, starts)
    if not is_row(choices):
        raise BadChoices(-1)
    place = first_place(program, starts)
    for index, number in enumerate(choices):
        if not can_choose(place.choice, number):
            raise BadChoices(index)
        place = place_behind(place, number)
    if place.choice is not None:
        raise BadChoices(len(choices))
    return dict(place.held)
