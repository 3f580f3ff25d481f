"""What the tests share: short ways to write programs, odd objects, and a plain second telling of sections 2 and 3."""

import itertools
import random
import re

from howhigh.errors import BadProgram, HighError, NoName, TooLong
from howhigh.flats import flat
from howhigh.programs import Program
from howhigh.runs import Run
from howhigh.ways import straight


def product(**powers):
    return tuple(sorted(powers.items()))


def add(name, *terms):
    return ("add", name, terms or ((1, ()),))


def become(name, *terms):
    return ("set", name, terms)


def lift(name, coefficient, **powers):
    return ("lift", name, (coefficient, product(**powers)))


def loop(name, *statements):
    return ("loop", name, statements)


def either(*blocks):
    return ("either", blocks)


def orders(*blocks):
    return ("orders", blocks)


def call(word):
    return ("call", word)


def term(coefficient, **powers):
    return (coefficient, product(**powers))


def program_p():
    """The p of the document's examples."""
    return Program(("a", "b", "x"), {}, (loop("a", add("x", term(1, b=1)), add("b", term(1))),))


def program_r():
    """The r of the document's examples."""
    return Program(("a", "b", "x"), {}, (either((add("x", term(1, a=1)),), (add("b", term(1, a=1)),)),))


def nested(depth, wrap=lambda thing: (thing,)):
    thing = ()
    for _ in range(depth):
        thing = wrap(thing)
    return thing


def odd_things():
    """Objects of the kinds of 0.3, new ones each time."""
    return [
        None, True, False, 0, 1, 2, 3, -1, 9, 10, 10 ** 29, "", "a", "b", "zz", "A", "a1", "#", "abcdefghi", "add", "loop",
        b"", b"a", bytearray(b"a"), [], ["a"], [1, 2], [()], (), ("a",), ("a", "b"), (1,), (True,), (1, ()), ((1, ()),),
        ((1, (("a", 1),)),), [(1, ())], {}, {"a": 1}, {"a": ()}, {1: 2}, {(): ()}, range(3), slice(1), Ellipsis,
        NotImplemented, int, len, object(), iter([1]), memoryview(b"a"), ValueError("a"), HighError(), NoName("a"),
        BadProgram, program_r(), Run(program_r(), {"a": 1, "b": 1, "x": 1}), nested(60), nested(60, lambda thing: [thing]),
        nested(60, lambda thing: {"a": thing}), nested(60, lambda thing: (thing, thing)),
        nested(19, lambda thing: (("either", (thing, thing, thing)),)), nested(29, lambda thing: (("loop", "a", thing),)),
    ]


def replaced(thing, odd):
    """All that thing becomes with odd in the place of it or of one of the things inside it."""
    yield odd
    if isinstance(thing, tuple):
        for k, item in enumerate(thing):
            for fresh in replaced(item, odd):
                yield thing[:k] + (fresh,) + thing[k + 1:]
    if isinstance(thing, dict):
        for key in thing:
            for fresh in replaced(thing[key], odd):
                yield {**thing, key: fresh}


def caught(action, *arguments, **named):
    """The error that the call raises, as a tuple of its class's name and what it keeps; None if it raises none."""
    try:
        action(*arguments, **named)
    except HighError as error:
        return (type(error).__name__, *vars(error).values())
    return None


# A second telling of section 2: what is wrong with a program, by really writing it out.


def naive_name(thing):
    return type(thing) is str and 1 <= len(thing) <= 8 and all(letter in "abcdefghijklmnopqrstuvwxyz" for letter in thing)


def naive_product(names, thing):
    if type(thing) is not tuple or not all(type(pair) is tuple and len(pair) == 2 for pair in thing[:9]):
        return False
    if not all(type(name) is str and name in names and type(power) is int and power >= 1 for name, power in thing[:9]):
        return False
    return len(thing) <= 3 and sorted({name for name, power in thing}) == [name for name, power in thing] \
        and sum(power for name, power in thing) <= 3


def naive_term(names, thing):
    return type(thing) is tuple and len(thing) == 2 and type(thing[0]) is int and 1 <= thing[0] <= 9 \
        and naive_product(names, thing[1])


def naive_sum(names, thing):
    if type(thing) is not tuple or not 1 <= len(thing) <= 3 or not all(naive_term(names, one) for one in thing):
        return False
    return sorted({one[1] for one in thing}) == [one[1] for one in thing]


class TooWide(Exception):
    pass


def naive_block(names, bodies, words, block, in_loop, spent):
    """The block written out, with TooWide for what is none, or far too long."""
    if type(block) is not tuple:
        raise TooWide()
    out = []
    for statement in block:
        spent.append(statement)
        if len(spent) > 5000 or type(statement) is not tuple or not statement or type(statement[0]) is not str:
            raise TooWide()
        word, rest = statement[0], statement[1:]
        if word == "call" and len(rest) == 1 and type(rest[0]) is str and rest[0] in words:
            further = [other for other in bodies if other > rest[0]]
            out.extend(naive_block(names, bodies, further, bodies[rest[0]], True, spent))
        elif word == "loop" and len(rest) == 2 and type(rest[0]) is str and rest[0] in names:
            out.append(("loop", rest[0], naive_block(names, bodies, words, rest[1], True, spent)))
        elif word in ("either", "orders") and len(rest) == 1 and type(rest[0]) is tuple and 2 <= len(rest[0]) <= 3:
            blocks = [naive_block(names, bodies, words, inner, in_loop, spent) for inner in rest[0]]
            out.append((word, tuple(blocks)))
        elif word in ("add", "lift", "set") and len(rest) == 2 and type(rest[0]) is str and rest[0] in names:
            good = naive_term(names, rest[1]) if word == "lift" else naive_sum(names, rest[1])
            if not good or word == "set" and (in_loop or all(one[1] == () for one in rest[1])):
                raise TooWide()
            out.append(statement)
        else:
            raise TooWide()
    return tuple(out)


def inner_blocks(statement):
    if statement[0] == "loop":
        return [statement[2]]
    return list(statement[1]) if statement[0] in ("either", "orders") else []


def all_statements(block):
    for statement in block:
        yield statement
        for inner in inner_blocks(statement):
            yield from all_statements(inner)


def depth(block, words):
    return max([0] + [(statement[0] in words) + max(depth(inner, words) for inner in inner_blocks(statement))
                      for statement in block if inner_blocks(statement)])


def naive_ways(block):
    """All ways of a block that is written out, in any order."""
    found = [()]
    for statement in block:
        if statement[0] == "either":
            further = [(k,) + way for k, inner in enumerate(statement[1]) for way in naive_ways(inner)]
        elif statement[0] == "orders":
            further = []
            for k, order in enumerate(sorted(itertools.permutations(range(len(statement[1]))))):
                joined = sum((statement[1][number] for number in order), ())
                further.extend((k,) + way for way in naive_ways(joined))
        else:
            continue
        found = [way + behind for way in found for behind in further]
        if len(found) > 10000:
            raise TooWide()
    return found


def naive_wrong_part(names, bodies, main):
    """The part of BadProgram, None for a right program."""
    if type(names) is not tuple or not 1 <= len(names) <= 4 or not all(naive_name(name) for name in names) \
            or sorted(set(names)) != list(names):
        return "names"
    if type(bodies) is not dict or len(bodies) > 4 or not all(naive_name(word) for word in bodies):
        return "bodies"
    try:
        for word in bodies:
            further = [other for other in bodies if other > word]
            if len(list(all_statements(naive_block(names, bodies, further, bodies[word], True, [])))) > 40:
                return "bodies"
    except TooWide:
        return "bodies"
    try:
        return None if naive_fits(naive_block(names, bodies, list(bodies), main, False, [])) else "main"
    except TooWide:
        return "main"


def naive_fits(main):
    """Whether a main that is written out keeps to the bounds."""
    found = list(all_statements(main))
    if len(found) > 40 or sum(statement[0] in ("add", "lift", "set") for statement in found) > 12:
        return False
    if depth(main, ("loop", "either", "orders")) > 8 or depth(main, ("loop",)) > 2:
        return False
    blocks = [main] + [statement[2] for statement in found if statement[0] == "loop"]
    return all(len(naive_ways(block)) <= 24 for block in blocks)


# A second telling of section 3.


def naive_value(one, numbers):
    worth = 1
    for name, power in one:
        worth *= numbers[name] ** power
    return worth


def naive_total(terms, numbers):
    return sum(coefficient * naive_value(one, numbers) for coefficient, one in terms)


class NaiveRun:
    """A run that asks choose(kind, many) for each choice; told holds what it asked and was answered."""

    def __init__(self, program, starts, choose):
        self.numbers = dict(starts)
        self.steps = 0
        self.told = []
        self.deep = 0
        self.choose = choose
        self.do(naive_block(program.names, program.bodies, list(program.bodies), program.main, False, []))

    def ask(self, kind, many):
        number = self.choose(kind, many)
        self.told.append(((kind, many), number))
        return number

    def do(self, block):
        for statement in block:
            word = statement[0]
            if word == "either":
                self.do(statement[1][self.ask("either", len(statement[1]))])
            elif word == "orders":
                every = sorted(itertools.permutations(range(len(statement[1]))))
                for number in every[self.ask("orders", len(every))]:
                    self.do(statement[1][number])
            elif word == "loop":
                for _ in range(self.ask("loop", self.numbers[statement[1]])):
                    self.steps += 1
                    self.deep += 1
                    self.do(statement[2])
                    self.deep -= 1
            else:
                self.steps += 1
                self.do_row(*statement)

    def do_row(self, word, name, content):
        if word == "add":
            self.numbers[name] += naive_total(content, self.numbers)
        elif word == "set":
            self.numbers[name] = naive_total(content, self.numbers)
        else:
            self.numbers[name] = max(self.numbers[name], content[0] * naive_value(content[1], self.numbers))


class WayRun(NaiveRun):
    """A run that chooses by the way outside loops, and at random in them; TooLong where it becomes too long."""

    def __init__(self, program, way, starts, rng):
        self.way = list(way)
        self.rng = rng
        super().__init__(program, starts, self.pick)

    def pick(self, kind, many):
        if kind == "loop" and (many > 300 or self.steps > 1000):
            raise TooLong()
        if kind == "loop":
            return self.rng.choice([0, many, self.rng.randint(0, many)])
        return self.rng.randrange(many) if self.deep else self.way.pop(0)

    def do_row(self, word, name, content):
        super().do_row(word, name, content)
        if self.numbers[name] > 10 ** 1000:
            raise TooLong()


class NaiveFullRun(NaiveRun):
    """The full run of a way; TooLong where it has more than most steps, or comes to a number above 10 ** 3000."""

    def __init__(self, program, way, starts, most):
        self.way = list(way)
        self.most = most
        super().__init__(program, starts, None)

    def do(self, block):
        for statement in block:
            if statement[0] == "loop":
                turns, around = sorted(naive_ways(statement[2])), self.way
                for number in range(self.numbers[statement[1]]):
                    self.step()
                    self.way = list(turns[number % len(turns)])
                    self.do(statement[2])
                self.way = around
            elif statement[0] == "either":
                self.do(statement[1][self.way.pop(0)])
            elif statement[0] == "orders":
                every = sorted(itertools.permutations(range(len(statement[1]))))
                for number in every[self.way.pop(0)]:
                    self.do(statement[1][number])
            else:
                self.step()
                self.do_row(*statement)
                if self.numbers[statement[1]] > 10 ** 3000:
                    raise TooLong()

    def step(self):
        self.steps += 1
        if self.steps > self.most:
            raise TooLong()


def some_product(rng, names):
    powers = {}
    for _ in range(rng.choice([0, 1, 1, 1, 2, 3])):
        name = rng.choice(names)
        powers[name] = powers.get(name, 0) + 1
    return product(**powers)


def some_row(rng, names, sets):
    word = rng.choice(["add", "add", "lift"] + ["set"] * sets)
    name = rng.choice(names)
    if word == "lift":
        return (word, name, (rng.randint(1, 3), some_product(rng, names)))
    products = sorted({some_product(rng, names) for _ in range(rng.choice([1, 1, 2, 3]))})
    if word == "set" and products == [()]:
        products = [((name, 1),)]
    return (word, name, tuple((rng.randint(1, 3), one) for one in products))


def some_block(rng, names, words, sets, deep, longest=3):
    out = []
    for _ in range(rng.randint(0, longest)):
        kinds = ["row"] * 4 + ["call"] * bool(words) + ["loop", "either", "orders"] * (deep > 0)
        kind = rng.choice(kinds)
        if kind == "row":
            out.append(some_row(rng, names, sets))
        elif kind == "call":
            out.append(call(rng.choice(words)))
        elif kind == "loop":
            out.append(("loop", rng.choice(names), some_block(rng, names, words, False, deep - 1, 2)))
        else:
            blocks = [some_block(rng, names, words, sets, deep - 1, 2) for _ in range(rng.choice([2, 2, 3]))]
            out.append((kind, tuple(blocks)))
    return tuple(out)


def some_parts(rng, deep=3):
    """Names, bodies and main, mostly of a right program."""
    names = ("a", "b", "x", "y")[:rng.randint(1, 4)]
    words = sorted(rng.sample(["do", "it", "so", "then"], rng.choice([0, 1, 2])))
    bodies = {word: some_block(rng, names, [other for other in words if other > word], False, deep - 1, 2) for word in words}
    return names, bodies, some_block(rng, names, words, True, deep)


def some_programs(seed, many, deep=3):
    """So many right programs, always the same ones for the same seed."""
    rng = random.Random(seed)
    found = []
    while len(found) < many:
        parts = some_parts(rng, deep)
        if naive_wrong_part(*parts) is None:
            found.append(Program(*parts))
    return found


def loopy_programs(seed, many):
    """So many right programs, always the same ones, with rows and loops of few rows one behind the other."""
    rng = random.Random(seed)
    found = []
    while len(found) < many:
        names = ("a", "b", "x", "y")[:rng.randint(2, 4)]
        main = []
        for _ in range(rng.randint(1, 4)):
            block = tuple(some_row(rng, names, False) for _ in range(rng.randint(1, 3)))
            kind = rng.choice(["loop", "loop", "loop", "row", "set", "inner", "either"])
            if kind == "loop":
                main.append(("loop", rng.choice(names), block))
            elif kind == "row":
                main.append(some_row(rng, names, False))
            elif kind == "set":
                main.append(("set", rng.choice(names), ((1, ((rng.choice(names), 1),)),)))
            elif kind == "inner":
                main.append(("loop", rng.choice(names), (("loop", rng.choice(names), block[:1]), *block[1:])))
            else:
                main.append(("either", (block, (("loop", rng.choice(names), block[:1]),))))
        if naive_wrong_part(names, {}, tuple(main)) is None:
            found.append(Program(names, {}, tuple(main)))
    return found


def rowy_programs(seed, many, most_rows):
    """So many right programs, always the same ones, of few names, with up to so many rows and either among them."""
    rng = random.Random(seed)
    found = []
    while len(found) < many:
        names = ("a", "b", "x")[:rng.randint(2, 3)]
        words = ["do"] * (rng.random() < 0.3)
        bodies = {word: some_block(rng, names, [], False, 1, 2) for word in words}
        main = some_block(rng, names, words, True, 3, 5)
        if naive_wrong_part(names, bodies, main) is None and 2 <= naive_rows(main, bodies) <= most_rows:
            found.append(Program(names, bodies, main))
    return found


def naive_rows(main, bodies):
    """How many add and lift rows stand in main and the bodies."""
    return sum(statement[0] in ("add", "lift") for block in [main, *bodies.values()] for statement in all_statements(block))


def turning_programs(seed, many):
    """So many right programs, always the same ones, with loops in which loops, either and orders stand."""
    rng = random.Random(seed)
    found = []
    while len(found) < many:
        names = ("a", "b", "x", "y")[:rng.randint(2, 4)]
        main = tuple(("loop", rng.choice(names), some_block(rng, names, [], False, 2, 4)) if rng.random() < 0.8
                     else some_row(rng, names, True) for _ in range(rng.randint(1, 3)))
        if naive_wrong_part(names, {}, main) is None:
            found.append(Program(names, {}, main))
    return found


def some_starts(rng, program, greatest):
    return {name: rng.randint(1, greatest) for name in program.names}


def all_ends(program, starts, most):
    """The set of all tuples at the ends of runs; None if there are too many runs, or one has more than 60 steps."""
    found = set()
    run = Run(program, starts)
    tried = [0]

    def follow():
        tried[0] += 1
        if tried[0] > most or run.steps > 60:
            return False
        if run.choice is None:
            found.add(tuple(run.numbers[name] for name in program.names))
            return True
        kind, many = run.choice
        for number in reversed(range(many + (kind == "loop"))):
            run.choose(number)
            if not follow():
                return False
            run.back()
        return True

    try:
        return found if follow() else None
    except TooLong:
        return None


def maxima(tuples):
    """The ascending list of those over which no other one stands."""
    def stands(one, other):
        return one != other and all(a >= b for a, b in zip(one, other))
    return sorted(one for one in tuples if not any(stands(other, one) for other in tuples))


# A second telling of sections 4 to 7.


def handed(flat):
    """All pairs (giver, name), the giver handed on to the name, directly or by other names."""
    found = {(giver, row[1]) for row in flat for giver, _ in row[3]}
    while True:
        more = found | {(a, d) for a, b in found for c, d in found if b == c}
        if more == found:
            return found
        found = more


def is_exempt(row, part):
    return row[0] == "lift" and row[2] == 1 and row[3] in [((name, 1),) for name in part]


def naive_parts(names, flat):
    pairs = handed(flat)
    waiting = {tuple(b for b in names if a == b or (a, b) in pairs and (b, a) in pairs) for a in names}
    found = []
    while waiting:
        free = [part for part in waiting
                if not any((a, b) in pairs for other in waiting - {part} for a in other for b in part)]
        found.append(min(free))
        waiting.remove(min(free))
    return found


def naive_doubling(names, flat):
    return [part for part in naive_parts(names, flat)
            if any(row[1] in part and any(name in part for name, _ in row[3]) and not is_exempt(row, part) for row in flat)]


def naive_calm(names, flat):
    """The names whose parts neither double nor are given from parts that double."""
    wild = {name for part in naive_doubling(names, flat) for name in part}
    return [name for name in names if name not in wild and not any((giver, name) in handed(flat) for giver in wild)]


def multiplied(pairs):
    """The product of the products, each to its power, of a list of pairs (product, power)."""
    powers = {}
    for one, power in pairs:
        for name, many in one:
            powers[name] = powers.get(name, 0) + many * power
    return tuple(sorted(powers.items()))


def put_sum(coefficient, one, sums):
    """A term with sums in the place of names, as a dict from products to coefficients."""
    found = {(): coefficient}
    for name, power in one:
        for _ in range(power):
            grown = {}
            for done, many in found.items():
                for further, product_there in sums[name]:
                    joined = multiplied([(done, 1), (product_there, 1)])
                    grown[joined] = grown.get(joined, 0) + many * further
            found = grown
    return found


def later(terms):
    """A dict of terms in which "#" + 1 stands for "#"."""
    found = {}
    for one, coefficient in terms.items():
        sums = {name: ((1, ((name, 1),)),) for name, _ in one}
        sums["#"] = ((1, ()), (1, (("#", 1),)))
        for further, many in put_sum(coefficient, one, sums).items():
            found[further] = found.get(further, 0) + many
    return found


def summed(*dicts):
    found = {}
    for terms in dicts:
        for one, coefficient in terms.items():
            found[one] = found.get(one, 0) + coefficient
    return found


def is_covered(one, other):
    return all(other.get(key, 0) >= coefficient for key, coefficient in one.items())


def naive_product_over(names, thing):
    return type(thing) is tuple and all(type(pair) is tuple and len(pair) == 2 for pair in thing) \
        and all(type(name) is str and name in names and type(power) is int and power >= 1 for name, power in thing) \
        and sorted({name for name, _ in thing}) == [name for name, _ in thing]


def naive_is_loop_paper(names, flat, thing):
    """The conditions of 5.1, one by one."""
    letters = ["#", *names]
    if type(thing) is not tuple or not all(type(pair) is tuple and len(pair) == 2 for pair in thing):
        return False
    sums = {}
    for part, terms in thing:
        if type(part) is not tuple or not part or not all(type(name) is str and name in names for name in part):
            return False
        if list(part) != sorted(set(part)) or any(name in sums for name in part):
            return False
        if type(terms) is not tuple or not terms or not all(type(one) is tuple and len(one) == 2 for one in terms):
            return False
        if not all(type(c) is int and c >= 1 and naive_product_over(letters, one) for c, one in terms):
            return False
        if sorted({one for _, one in terms}) != [one for _, one in terms] or any(q > 99 for _, one in terms for _, q in one):
            return False
        bound = {one: c for c, one in terms}
        rows = [row for row in flat if row[1] in part and not is_exempt(row, part)]
        if any(((name, 1),) not in bound for name in part) or any(name not in sums for row in rows for name, _ in row[3]):
            return False
        added = later(summed(*[put_sum(row[2], row[3], sums) for row in rows if row[0] == "add"]))
        if not is_covered(summed(bound, added), later(bound)):
            return False
        for row in rows:
            if row[0] == "lift" and not is_covered(summed(later(put_sum(row[2], row[3], sums)), added), later(bound)):
                return False
        for name in part:
            sums[name] = terms
    return True


def naive_loop_products(names, flat, most):
    """For each name all products of its loop trees, found again and again; None if there are more than most in all."""
    found = {name: {((name, 1),)} for name in names}
    while True:
        many = sum(len(found[name]) for name in names)
        if many > most:
            return None
        for word, name, _, one in flat:
            for chosen in itertools.product(*[sorted(found[other]) for other, _ in one]):
                pairs = [(top, power) for top, (_, power) in zip(chosen, one)]
                found[name].add(multiplied(pairs + [((("#", 1),), 1)] * (word == "add")))
        if sum(len(found[name]) for name in names) == many:
            return found


def weighs(one, heading):
    return sum(power * heading[name] for name, power in one)


def are_weights(one, row, found):
    """Whether they are weights of the product against the row, by the words of 7.1."""
    if type(found) is not tuple or len(found) != len(row) or not all(type(x) is int and x >= 0 for x in found) or not any(found):
        return False
    names = {name for other in [one, *row] for name, _ in other}
    return all(sum(found) * dict(one).get(name, 0) <= sum(x * dict(other).get(name, 0) for x, other in zip(found, row))
               for name in names)


def is_direction(one, row, found):
    """Whether it is a direction for the product against the row, by the words of 7.2."""
    names = {name for other in [one, *row] for name, _ in other}
    if type(found) is not dict or set(found) != names or not all(type(x) is int and x >= 0 for x in found.values()):
        return False
    return all(weighs(one, found) > weighs(other, found) for other in row)


def naive_lean(below, products):
    """The lean tuple, by the words of 7.3 and the below that is handed in."""
    different = sorted(set(products))
    if len(different) == 1:
        return tuple(different)
    return tuple(one for one in different if not below(one, [other for other in different if other != one]))


def some_flat(rng, most_names=4, most_rows=5, most_degree=4):
    """Names and flat rows over them, likely with rings."""
    names = sorted(rng.sample(["a", "b", "c", "d", "x", "y"], rng.randint(1, most_names)))
    found = {}
    for _ in range(rng.randint(0, most_rows)):
        powers = {}
        for _ in range(rng.choice([0, 1, 1, 1, 2, 2, most_degree])):
            name = rng.choice(names)
            powers[name] = powers.get(name, 0) + 1
        found[rng.choice(["add", "lift", "lift"]), rng.choice(names), product(**powers)] = rng.choice([1, 1, 1, 2, 5])
    rows = tuple(sorted((word, name, c, one) for (word, name, one), c in found.items()))
    return (tuple(names) if rng.randint(0, 1) else names), rows


def sites(thing, path=()):
    """The paths to the thing and to all things inside it."""
    found = [path]
    if isinstance(thing, (tuple, list)):
        for k, item in enumerate(thing):
            found.extend(sites(item, path + (k,)))
    if isinstance(thing, dict):
        for key in thing:
            found.extend(sites(thing[key], path + (key,)))
    return found


def at_path(thing, path):
    for step in path:
        thing = thing[step]
    return thing


def with_path(thing, path, fresh):
    if not path:
        return fresh
    if isinstance(thing, dict):
        return {**thing, path[0]: with_path(thing[path[0]], path[1:], fresh)}
    items = list(thing)
    items[path[0]] = with_path(items[path[0]], path[1:], fresh)
    return type(thing)(items)


def mutated(rng, thing, extra=()):
    """The thing with one random change somewhere inside it."""
    path = rng.choice(sites(thing))
    one = at_path(thing, path)
    choices = [at_path(thing, rng.choice(sites(thing))), rng.choice([None, True, 0, 1, "a", "x", "keep", (), [], {}, ("start",), ("begin",)])]
    choices.extend(extra)
    if isinstance(one, int):
        choices.extend([one + 1, one - 1, bool(one), str(one)] * 2)
    if isinstance(one, tuple):
        k = rng.randrange(len(one) + 1)
        choices.extend([list(one), one[:k] + one[k + 1:], one[:k] + one[max(0, k - 1):], one[::-1]] * 2)
        if one:
            choices.append(one[rng.randrange(len(one))])
    if isinstance(one, dict):
        key = rng.choice([*one, "a", "#", 1])
        choices.extend([{**one, key: rng.choice([None, ("start",), *one.values()])}, {k: v for k, v in one.items() if k != key}] * 2)
    return with_path(thing, path, rng.choice(choices))


# A second telling of sections 8 and 9.


def terms_in(row):
    return (row[2],) if row[0] == "lift" else row[2]


def is_row_of(step, name):
    return step[0] in ("add", "lift", "set") and step[1] == name


def has_ring(rows, name):
    """Whether there is a ring for the name: a walk over rows, with a flag for a row that does more than hand on."""
    todo = [(k, False) for k, row in enumerate(rows) if row[1] == name]
    seen = set(todo)
    while todo:
        k, special = todo.pop()
        word, _, c, one = rows[k]
        for giver, _ in one:
            now = special or word == "add" or (c, one) != (1, ((giver, 1),))
            if giver == name and now:
                return True
            for state in [(j, now) for j, row in enumerate(rows) if row[1] == giver]:
                if state not in seen:
                    seen.add(state)
                    todo.append(state)
    return False


def naive_above_names(names, steps, flats):
    """For each place the set of the names with an above tree there."""
    places = [set()]
    for step, rows in zip(steps, flats):
        ahead = places[-1]
        behind = {name for name in ahead if step[0] != "set" or step[1] != name}
        if step[0] != "loop":
            if any(giver in ahead for _, one in terms_in(step) for giver, _ in one):
                behind.add(step[1])
        else:
            behind |= {name for name in names if has_ring(rows, name)}
            behind |= {row[1] for row in rows if row[0] == "add" and step[1] in ahead}
            while True:
                more = behind | {row[1] for row in rows if any(giver in behind for giver, _ in row[3])}
                if more == behind:
                    break
                behind = more
        places.append(behind)
    return places


def chosen_products(one, sets):
    """All products of one product of each name's set, to its power."""
    found = set()
    for chosen in itertools.product(*[sorted(sets[name]) for name, _ in one]):
        found.add(multiplied([(top, power) for top, (_, power) in zip(chosen, one)]))
    return found


def naive_branch_products(names, steps, flats, most):
    """For each place, for each name without an above tree there, the set of all products of its branches; None if too many."""
    aboves = naive_above_names(names, steps, flats)
    places = [{name: {((name, 1),)} for name in names}]
    for k, (step, rows) in enumerate(zip(steps, flats)):
        ahead = places[-1]
        behind = {}
        if step[0] == "loop":
            calm = naive_calm(names, rows)
            trees = naive_loop_products(calm, [row for row in rows if row[1] in calm], most)
            if trees is None:
                return None
            sets = {**ahead, "#": ahead.get(step[1])}
        for name in names:
            if name in aboves[k + 1]:
                continue
            found = set()
            if name in ahead and (step[0], step[1]) != ("set", name):
                found |= ahead[name]
            if step[0] == "loop":
                for one in trees[name]:
                    found |= chosen_products(one, sets)
                    if len(found) > most:
                        return None
            elif step[1] == name:
                for _, one in terms_in(step):
                    found |= chosen_products(one, ahead)
            if len(found) > most:
                return None
            behind[name] = found
        places.append(behind)
    return places


def naive_heights(below, names, steps, flats, most):
    places = naive_branch_products(names, steps, flats, most)
    if places is None:
        return None
    return {name: naive_lean(below, places[-1][name]) if name in places[-1] else None for name in names}


def naive_is_tree(rows, name, thing):
    """Whether it is a loop tree for the name, by the words of 6.1."""
    if type(thing) is not tuple or not thing or type(thing[0]) is not str:
        return False
    if thing[0] == "begin":
        return len(thing) == 1
    if thing[0] != "row" or len(thing) != 3 or type(thing[1]) is not int or thing[1] not in range(len(rows)):
        return False
    row = rows[thing[1]]
    return row[1] == name and type(thing[2]) is tuple and len(thing[2]) == len(row[3]) \
        and all(naive_is_tree(rows, other, inner) for (other, _), inner in zip(row[3], thing[2]))


def told_tree_product(rows, name, tree):
    """The product of a loop tree by the words of 6.1."""
    if tree[0] == "begin":
        return ((name, 1),)
    word, _, _, one = rows[tree[1]]
    pairs = [(told_tree_product(rows, other, inner), power) for (other, power), inner in zip(one, tree[2])]
    return multiplied(pairs + [((("#", 1),), 1)] * (word == "add"))


class NoTree(Exception):
    pass


def told_branch_product(steps, flats, place, name, thing):
    """The product of a branch by the words of 8.1; NoTree for what is none."""
    if type(thing) is not tuple or not thing or type(thing[0]) is not str:
        raise NoTree()
    word, rest = thing[0], thing[1:]
    if word == "start" and not rest and place == 0:
        return ((name, 1),)
    if place == 0:
        raise NoTree()
    step, rows = steps[place - 1], flats[place - 1]
    if word == "keep" and len(rest) == 1 and not (step[0] == "set" and step[1] == name):
        return told_branch_product(steps, flats, place - 1, name, rest[0])
    if word == "row" and len(rest) == 2 and step[0] != "loop" and step[1] == name:
        number, trees = rest
        if type(number) is not int or number not in range(len(terms_in(step))):
            raise NoTree()
        one = terms_in(step)[number][1]
        if type(trees) is not tuple or len(trees) != len(one):
            raise NoTree()
        return multiplied([(told_branch_product(steps, flats, place - 1, other, tree), power)
                           for (other, power), tree in zip(one, trees)])
    if word == "loop" and len(rest) == 3 and step[0] == "loop" and naive_is_tree(rows, name, rest[0]):
        one = told_tree_product(rows, name, rest[0])
        if type(rest[1]) is not dict or set(rest[1]) != {other for other, _ in one if other != "#"}:
            raise NoTree()
        if ("#" in dict(one)) != (rest[2] is not None):
            raise NoTree()
        return multiplied([(told_branch_product(steps, flats, place - 1, *((other, rest[1][other]) if other != "#" else (step[1], rest[2]))),
                            power) for other, power in one])
    raise NoTree()


def is_told_branch(steps, flats, name, thing):
    try:
        told_branch_product(steps, flats, len(steps), name, thing)
        return True
    except NoTree:
        return False


def steps_and_flats(program, way):
    steps = straight(program, way)
    return steps, [flat(program, step) if step[0] == "loop" else None for step in steps]


def is_told_above(steps, flats, place, name, thing):
    """Whether it is an above tree, by the words of 8.2."""
    if place == 0 or type(thing) is not tuple or not thing or type(thing[0]) is not str:
        return False
    step, rows = steps[place - 1], flats[place - 1]
    word, rest = thing[0], thing[1:]
    if word == "keep" and len(rest) == 1:
        return not (step[0] == "set" and step[1] == name) and is_told_above(steps, flats, place - 1, name, rest[0])
    if word == "row" and len(rest) == 3 and step[0] != "loop" and step[1] == name:
        number, giver, tree = rest
        return type(number) is int and number in range(len(terms_in(step))) and type(giver) is str \
            and giver in dict(terms_in(step)[number][1]) and is_told_above(steps, flats, place - 1, giver, tree)
    return word == "loop" and len(rest) == 1 and step[0] == "loop" and is_told_loop_above(steps, flats, place - 1, name, rest[0])


def is_told_loop_above(steps, flats, place, name, thing):
    rows = flats[place]
    if type(thing) is not tuple or not thing or type(thing[0]) is not str:
        return False
    word, rest = thing[0], thing[1:]
    if word == "before" and len(rest) == 1:
        return is_told_above(steps, flats, place, name, rest[0])
    if word == "ring" and len(rest) == 1:
        numbers = rest[0]
        if type(numbers) is not tuple or not numbers or not all(type(k) is int and k in range(len(rows)) for k in numbers):
            return False
        following = numbers[1:] + numbers[:1]
        return rows[numbers[0]][1] == name and all(rows[j][1] in dict(rows[k][3]) for k, j in zip(numbers, following)) \
            and any(rows[k][0] == "add" or rows[k][2] != 1 or rows[k][3] != ((rows[j][1], 1),) for k, j in zip(numbers, following))
    if word not in ("hand", "count") or not rest or type(rest[0]) is not int or rest[0] not in range(len(rows)) or rows[rest[0]][1] != name:
        return False
    if word == "count":
        return len(rest) == 2 and rows[rest[0]][0] == "add" and is_told_above(steps, flats, place, steps[place][1], rest[1])
    return len(rest) == 3 and type(rest[1]) is str and rest[1] in dict(rows[rest[0]][3]) \
        and is_told_loop_above(steps, flats, place, rest[1], rest[2])


def depth_of(thing):
    """How deep tuples, lists and dicts stand in one another."""
    inner = thing.values() if isinstance(thing, dict) else thing if isinstance(thing, (tuple, list)) else None
    return 0 if inner is None else 1 + max([0] + [depth_of(item) for item in inner])


# A second telling of section 15.


NAME_FORM = "[a-z]{1,8}"
MORE_FORM = "(?:[2-9]|[1-9][0-9]{1,8})"
FACTORS_FORM = rf"{NAME_FORM}(?:\^{MORE_FORM})?(?:\*{NAME_FORM}(?:\^{MORE_FORM})?)*"


def told_product(text):
    """The product with this text, None if there is none."""
    if text == "1":
        return ()
    if not re.fullmatch(FACTORS_FORM, text):
        return None
    pairs = [factor.split("^") for factor in text.split("*")]
    found = tuple((pair[0], int(pair[1]) if pair[1:] else 1) for pair in pairs)
    return found if sorted({name for name, _ in found}) == [name for name, _ in found] else None


def told_term(text):
    found = re.fullmatch(rf"({MORE_FORM})(?:\*({FACTORS_FORM}))?", text)
    if found is None:
        one = told_product(text)
        return None if one is None else (1, one)
    one = () if found[2] is None else told_product(found[2])
    return None if one is None else (int(found[1]), one)


def told_sum(text):
    terms = [told_term(part) for part in text.split("+")]
    if None in terms or sorted({one for _, one in terms}) != [one for _, one in terms]:
        return None
    return tuple(terms)


class WrongLine(Exception):
    pass


def told_parts(text):
    """The names, bodies and main of the program with this text; WrongLine with the number of the first wrong line."""
    *lines, rest = text.split("\n")
    at = 0

    def need(holds):
        if not holds:
            raise WrongLine(at + 1)

    def taken():
        nonlocal at
        need(at < len(lines))
        words = lines[at].split(" ")
        need(all(words))
        return words

    def block(deep, ends):
        """The statements up to a line of one of the ends, and this end; deep blocks stand around, this one among them."""
        nonlocal at
        out = []
        while True:
            words = taken()
            if len(words) == 1 and words[0] in ends:
                at += 1
                return tuple(out), words[0]
            kind = words[0]
            if kind in ("add", "set", "lift"):
                need(len(words) == 3 and re.fullmatch(NAME_FORM, words[1]))
                content = told_term(words[2]) if kind == "lift" else told_sum(words[2])
                need(content is not None)
                at += 1
                out.append((kind, words[1], content))
            elif kind == "call":
                need(len(words) == 2 and re.fullmatch(NAME_FORM, words[1]))
                at += 1
                out.append((kind, words[1]))
            elif kind == "loop":
                need(len(words) == 2 and re.fullmatch(NAME_FORM, words[1]) and deep < 30)
                at += 1
                out.append((kind, words[1], block(deep + 1, ["done"])[0]))
            else:
                need(kind in ("either", "orders") and len(words) == 1 and deep < 30)
                at += 1
                between = {"either": "or", "orders": "also"}[kind]
                blocks, end = [block(deep + 1, [between])[0]], between
                while end == between:
                    inner, end = block(deep + 1, [between, "done"])
                    blocks.append(inner)
                out.append((kind, tuple(blocks)))

    words = taken()
    need(words[0] == "names" and words[1:] and all(re.fullmatch(NAME_FORM, word) for word in words[1:]) and sorted(set(words[1:])) == words[1:])
    at += 1
    names, bodies = tuple(words[1:]), {}
    while True:
        words = taken()
        if words == ["main"]:
            break
        need(len(words) == 2 and words[0] == "body" and re.fullmatch(NAME_FORM, words[1]) and all(word < words[1] for word in bodies))
        at += 1
        bodies[words[1]] = block(1, ["done"])[0]
    at += 1
    main, _ = block(1, ["done"])
    need(at == len(lines) and not rest)
    return names, bodies, main


def told_error(text):
    """What read_program raises for the string text, as caught tells it, by the words of 15.3 and a second telling of 2.2."""
    try:
        parts = told_parts(text)
    except WrongLine as error:
        return ("BadText", error.args[0])
    part = naive_wrong_part(*parts)
    return part and ("BadProgram", part)
