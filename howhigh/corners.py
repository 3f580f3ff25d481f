"""The search for a direction in which a vector weighs more than others, in integers (7.1 and 7.2).

A direction y is sought, each y[n] from 0 on, in which none of the vectors has a weight above its bound and another
one has as much as possible. It moves from corner to corner of these directions (the simplex method). Where the other
one gets no weight above 1, the slopes at the best corner are weights of the vectors that show it.
"""

from math import gcd


def shortened(numbers):
    """Integers from 0 on, not all 0, divided by all that divides each of them."""
    shared = 0
    for number in numbers:
        shared = gcd(shared, number)
    return [number // shared for number in numbers]


class Corner:
    """A corner of the directions in which none of these vectors of integers has a weight above its bound, from 0 on.

    For each of their places some vector that has nothing below 0 has more than 0 there, so that no weight can rise for
    ever. The variables are numbered: first the places of a direction, then for each vector what its weight leaves of
    its bound. Those that are free are 0 at the corner. Each other one has a row: its number at the corner, then how
    much it falls by each of the free ones, all times the scale (that of the last pivot, so that all stay integers, as
    Edmonds found).
    """

    def __init__(self, vectors, bounds):
        self._places = len(vectors[0])
        self._scale = 1
        self._free = list(range(self._places))
        self._bound = [self._places + k for k in range(len(vectors))]
        self._rows = [[bound, *vector] for bound, vector in zip(bounds, vectors)]
        self._aim = []

    def can_raise(self, vector):
        """Whether some direction gives the vector a weight above 1; moves on to such a corner, or to the best."""
        self._aim = self._aim_at(vector)
        while self._aim[0] <= self._scale:
            column = self._entering()
            if column is None:
                return False
            self._pivot(self._leaving(column), column)
        return True

    def direction(self):
        """The direction of the corner, times its scale."""
        found = [0] * self._places
        for variable, row in zip(self._bound, self._rows):
            if variable < self._places:
                found[variable] = row[0]
        return found

    def slopes(self, many):
        """How much of the aim each of so many vectors holds back, times the scale."""
        found = [0] * many
        for k, variable in enumerate(self._free):
            if variable >= self._places:
                found[variable - self._places] = self._aim[k + 1]
        return found

    def _aim_at(self, vector):
        """The row of the weight of the vector."""
        aim = [0]
        for variable in self._free:
            aim.append(-self._scale * vector[variable] if variable < self._places else 0)
        for variable, row in zip(self._bound, self._rows):
            if variable < self._places:
                worth = vector[variable]
                aim = [entry + worth * other for entry, other in zip(aim, row)]
        return aim

    def _entering(self):
        """The column of the first free variable by which the aim rises, None if there is none."""
        rising = [(variable, k + 1) for k, variable in enumerate(self._free) if self._aim[k + 1] < 0]
        # The first one, here and among the leaving ones, so that no corner comes again for ever (Bland's rule).
        return min(rising)[1] if rising else None

    def _leaving(self, column):
        """The number of the bound variable that is the first to become 0 as that of the column rises."""
        best = None
        for number, row in enumerate(self._rows):
            if row[column] <= 0:
                continue
            if best is None:
                best = number
                continue
            other = self._rows[best]
            gap = row[0] * other[column] - other[0] * row[column]
            if gap < 0 or gap == 0 and self._bound[number] < self._bound[best]:
                best = number
        return best

    def _pivot(self, number, column):
        """The free variable of the column and the bound one of this number change places."""
        chief = self._rows[number]
        lead = chief[column]
        fresh = [self._without(row, chief, column) for row in self._rows]
        self._aim = self._without(self._aim, chief, column)
        fresh[number] = [*chief[:column], self._scale, *chief[column + 1:]]
        self._rows = fresh
        self._scale = lead
        self._free[column - 1], self._bound[number] = self._bound[number], self._free[column - 1]

    def _without(self, row, chief, column):
        """The row by the new free variables, that of the column told by the chief row."""
        lead = chief[column]
        part = row[column]
        if part == 0:
            if lead == self._scale:
                return row
            return [entry * lead // self._scale for entry in row]
        out = [(entry * lead - part * other) // self._scale for entry, other in zip(row, chief)]
        out[column] = -part
        return out
