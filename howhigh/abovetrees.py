"""Above trees: how names come above every power by a way (8.2 and 8.3)."""

from howhigh.flats import doubling, flat
from howhigh.handing import numbers_of, raising
from howhigh.kinds import is_made, is_number_of
from howhigh.forms import is_one_of
from howhigh.names import check_name
from howhigh.statements import ROW_WORDS, terms_of
from howhigh.ways import check_way, straight


def above(program, way, name):
    """An above tree for the name at the end of the way, None if there is none."""
    check_way(program, way)
    check_name(program, name)
    found = {}
    for step in straight(program, way):
        if step[0] == "loop":
            found = _behind_loop(program.names, step[1], flat(program, step), found)
        else:
            found = _behind_row(step, found)
    return found.get(name)


def _behind_row(row, ahead):
    """A dict from the names that are above behind a row to their above trees, by that for the place ahead."""
    word, name, _ = row
    found = {other: ("keep", ahead[other]) for other in ahead if (word, name) != ("set", other)}
    for number, (_, product) in enumerate(terms_of(row)):
        for other, _ in product:
            if other in ahead:
                found.setdefault(name, ("row", number, other, ahead[other]))
    return found


def _behind_loop(names, counter, rows, ahead):
    """A dict from the names that are above behind a loop with this counter and these flat rows to their trees."""
    inside = _first_above(names, counter, rows, ahead)
    todo = list(inside)
    while todo:
        giver = todo.pop(0)
        for number, (_, name, _, product) in enumerate(rows):
            if name not in inside and giver in [other for other, _ in product]:
                inside[name] = ("hand", number, giver, inside[giver])
                todo.append(name)
    return {name: ("keep", ahead[name]) if name in ahead else ("loop", inside[name]) for name in inside}


def _first_above(names, counter, rows, ahead):
    """A dict from names to loop above trees in which nothing is handed on."""
    found = {name: ("before", ahead[name]) for name in ahead}
    for part in doubling(names, rows):
        for name in part:
            found.setdefault(name, ("ring", _ring(name, part, rows)))
    if counter in ahead:
        for number, (word, name, _, _) in enumerate(rows):
            if word == "add":
                found.setdefault(name, ("count", number, ahead[counter]))
    return found


def _ring(name, part, rows):
    """The numbers of a ring of flat rows for a name of a part that doubles."""
    for number in raising(part, rows):
        _, raised, _, product = rows[number]
        for giver, _ in product:
            if giver in part:
                return (*_chain(name, raised, rows), number, *_chain(giver, name, rows))
    return ()


def _chain(name, giver, rows):
    """The list of the numbers of flat rows by which the giver is handed on to the name, that of the name first."""
    chains = {name: []}
    todo = [name]
    while giver not in chains:
        given = todo.pop(0)
        for number in numbers_of(given, rows):
            for other, _ in rows[number][3]:
                if other not in chains:
                    chains[other] = [*chains[given], number]
                    todo.append(other)
    return chains[giver]


def is_above(program, way, name, thing):
    """Whether it is an above tree for the name at the end of the way."""
    judge = AboveJudge(program, way)
    return judge.is_above_at(judge.last, name, thing)


class AboveJudge:
    """Judges above trees of a way of a program; last is the last place."""

    def __init__(self, program, way):
        self._steps = straight(program, way)
        self._flats = [flat(program, step) if step[0] == "loop" else None for step in self._steps]
        self.last = len(self._steps)

    def is_above_at(self, place, name, thing):
        """Whether it is an above tree for the name at the place."""
        if place == 0:
            return False
        step = self._steps[place - 1]
        if is_made(thing, "keep", 2):
            return (step[0], step[1]) != ("set", name) and self.is_above_at(place - 1, name, thing[1])
        if is_made(thing, "loop", 2):
            return step[0] == "loop" and self._is_loop_above(place - 1, name, thing[1])
        if not is_made(thing, "row", 4) or step[0] not in ROW_WORDS or step[1] != name:
            return False
        _, number, giver, tree = thing
        terms = terms_of(step)
        if not is_number_of(terms, number) or not _is_in(terms[number][1], giver):
            return False
        return self.is_above_at(place - 1, giver, tree)

    def _is_loop_above(self, place, name, thing):
        """Whether it is a loop above tree for the name and the loop behind the place."""
        rows = self._flats[place]
        if is_made(thing, "ring", 2):
            return _is_ring(name, rows, thing[1])
        if is_made(thing, "before", 2):
            return self.is_above_at(place, name, thing[1])
        if not is_made(thing, "hand", 4) and not is_made(thing, "count", 3):
            return False
        if not is_number_of(rows, thing[1]) or rows[thing[1]][1] != name:
            return False
        word, _, _, product = rows[thing[1]]
        if thing[0] == "count":
            return word == "add" and self.is_above_at(place, self._steps[place][1], thing[2])
        return _is_in(product, thing[2]) and self._is_loop_above(place, thing[2], thing[3])


def _is_in(product, thing):
    """Whether it is a name of the product."""
    return is_one_of([name for name, _ in product], thing)


def _is_ring(name, rows, thing):
    """Whether they are the numbers of a ring of flat rows for the name."""
    if not isinstance(thing, tuple) or not thing or not all([is_number_of(rows, number) for number in thing]):
        return False
    ring = [rows[number] for number in thing]
    givers = [row[1] for row in [*ring[1:], ring[0]]]
    if ring[0][1] != name or not all([_is_in(row[3], giver) for row, giver in zip(ring, givers)]):
        return False
    return any([row[0] == "add" or row[2] != 1 or row[3] != ((giver, 1),) for row, giver in zip(ring, givers)])
