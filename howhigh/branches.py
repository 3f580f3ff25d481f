"""Branches: how products of the starts are reached by a way (8.1 and 8.3)."""

from howhigh.climbs import climb_to
from howhigh.flats import flat
from howhigh.kinds import is_made, is_number_of
from howhigh.looptrees import is_loop_tree, loop_product
from howhigh.names import check_name
from howhigh.statements import ROW_WORDS, terms_of
from howhigh.sums import product_put
from howhigh.ways import check_way, straight


def branch(program, way, name, product):
    """A branch for the name at the end of the way, its product this one of the height."""
    places = climb_to(program, way, name, product)
    return Grower(straight(program, way), places).grown(len(places) - 1, name, product)


class Grower:
    """Grows branches for the products of heights at the places of a way, by how these come there."""

    def __init__(self, steps, places):
        self._steps = steps
        self._places = places
        self._known = {}

    def grown(self, place, name, product):
        """A branch for the name at the place, its product this one."""
        key = (place, name, product)
        if key not in self._known:
            self._known[key] = self._grow(place, name, product)
        return self._known[key]

    def _grow(self, place, name, product):
        origin = self._places[place][name][product]
        if origin[0] == "start":
            return ("start",)
        if origin[0] == "keep":
            return ("keep", self.grown(place - 1, name, product))
        step = self._steps[place - 1]
        if origin[0] == "row":
            _, number, chosen = origin
            trees = self._grown_for(place - 1, terms_of(step)[number][1], chosen)
            return ("row", number, tuple([tree for _, tree in trees]))
        _, tree, stands, chosen = origin
        counted = None
        if stands and stands[0][0] == "#":
            counted = self.grown(place - 1, step[1], chosen[0])
            stands, chosen = stands[1:], chosen[1:]
        return ("loop", tree, dict(self._grown_for(place - 1, stands, chosen)), counted)

    def _grown_for(self, place, product, chosen):
        """The list of the names of a product, each with a branch at the place for the product chosen for it."""
        return [(name, self.grown(place, name, top)) for (name, _), top in zip(product, chosen)]


def is_branch(program, way, name, thing):
    """Whether it is a branch for the name at the end of the way."""
    judge = BranchJudge(program, way)
    return judge.is_branch_at(judge.last, name, thing)


def branch_product(program, way, name, tree):
    """The product of a branch for the name at the end of the way."""
    check_way(program, way)
    check_name(program, name)
    judge = BranchJudge(program, way)
    return judge.product_at(judge.last, name, tree)


class BranchJudge:
    """Judges branches of a way of a program, and tells their products; last is the last place."""

    def __init__(self, program, way):
        self._names = program.names
        self._steps = straight(program, way)
        self._flats = [flat(program, step) if step[0] == "loop" else None for step in self._steps]
        self.last = len(self._steps)

    def is_branch_at(self, place, name, thing):
        """Whether it is a branch for the name at the place."""
        if place == 0:
            return is_made(thing, "start", 1)
        step = self._steps[place - 1]
        if is_made(thing, "keep", 2):
            return (step[0], step[1]) != ("set", name) and self.is_branch_at(place - 1, name, thing[1])
        if is_made(thing, "row", 3):
            return step[0] in ROW_WORDS and step[1] == name and self._is_row_branch(place, thing)
        return is_made(thing, "loop", 4) and step[0] == "loop" and self._is_loop_branch(place, name, thing)

    def _is_row_branch(self, place, thing):
        """Whether the number and the trees of a row branch are right ones for the row ahead of the place."""
        _, number, trees = thing
        terms = terms_of(self._steps[place - 1])
        if not is_number_of(terms, number) or not isinstance(trees, tuple):
            return False
        product = terms[number][1]
        if len(trees) != len(product):
            return False
        for (name, _), tree in zip(product, trees):
            if not self.is_branch_at(place - 1, name, tree):
                return False
        return True

    def _is_loop_branch(self, place, name, thing):
        """Whether the loop tree, the trees and counted of a loop branch are right ones for the loop ahead."""
        _, tree, trees, counted = thing
        rows = self._flats[place - 1]
        if not is_loop_tree(self._names, rows, name, tree) or not isinstance(trees, dict):
            return False
        inside = [other for other, _ in loop_product(self._names, rows, name, tree)]
        if "#" in inside:
            inside.remove("#")
            if not self.is_branch_at(place - 1, self._steps[place - 1][1], counted):
                return False
        elif counted is not None:
            return False
        if len(trees) != len(inside):
            return False
        for other in inside:
            if other not in trees or not self.is_branch_at(place - 1, other, trees[other]):
                return False
        return True

    def product_at(self, place, name, tree):
        """The product of a branch for the name at the place."""
        if tree[0] == "start":
            return ((name, 1),)
        if tree[0] == "keep":
            return self.product_at(place - 1, name, tree[1])
        step = self._steps[place - 1]
        if tree[0] == "row":
            product = terms_of(step)[tree[1]][1]
            return product_put(product, {other: self.product_at(place - 1, other, further)
                                         for (other, _), further in zip(product, tree[2])})
        _, inner, trees, counted = tree
        worths = {other: self.product_at(place - 1, other, trees[other]) for other in trees}
        if counted is not None:
            worths["#"] = self.product_at(place - 1, step[1], counted)
        return product_put(loop_product(self._names, self._flats[place - 1], name, inner), worths)
