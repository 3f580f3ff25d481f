"""The whole program: the facts of the document, step by step, as programs are changed, written, read, told to a desk, run and compared."""

import copy
import inspect
import random
import sys
import unittest

import howhigh.abovetrees
import howhigh.branches
import howhigh.covers
import howhigh.looppapers
import howhigh.looptrees
import howhigh.stairs
from helper import (NaiveFullRun, WayRun, add, call, caught, either, lift, loop, loopy_programs, naive_rows, naive_value, odd_things, orders,
                    program_p, program_r, some_programs, term, turning_programs)
from howhigh.abovetrees import above, is_above
from howhigh.branches import branch, branch_product, is_branch
from howhigh.changes import after, behind, loosened, renamed
from howhigh.covers import covered, covering, is_covering, outrun
from howhigh.cuts import cuts
from howhigh.desk import Desk
from howhigh.errors import BadProgram, TooLong
from howhigh.flats import doubling, flat, parts
from howhigh.heights import degree, height, heights, top, tops
from howhigh.hulls import below
from howhigh.looppapers import is_loop_paper, loop_paper
from howhigh.looptrees import loop_heights
from howhigh.programs import Program, rows, without_rows
from howhigh.reading import read_program
from howhigh.runs import Run, played
from howhigh.shares import share
from howhigh.stairs import is_stairs, stairs
from howhigh.steps import steps_height
from howhigh.texts import height_text, product_text, program_text, sum_text
from howhigh.ways import straight, ways


def lies_under(one, other):
    """Whether a dict of heights lies under another one, by the words of 8.5."""
    return all(other[name] is None or one[name] is not None and all(below(each, other[name]) for each in one[name]) for name in one)


class WholeTest(unittest.TestCase):
    def setUp(self):
        self.rng = random.Random(201)
        self.seen = {}

    def count(self, word):
        self.seen[word] = self.seen.get(word, 0) + 1

    def facts_hold(self, program):
        """Hold the program against the facts."""
        every = ways(program)
        found = {way: heights(program, way) for way in every}
        self.tops_hold(program, found)
        for way in self.rng.sample(every, min(2, len(every))):
            self.loops_are_alike(program, way, found[way])
            self.heights_hold(program, way, found[way])
            self.runs_hold(program, way, found[way])
        if naive_rows(program.main, program.bodies) <= 6 and len(every) <= 4:
            self.cuts_hold(program)

    def tops_hold(self, program, found):
        highest = tops(program)
        for one in found.values():
            self.assertTrue(any(lies_under(one, other) for other in highest))
        for name in program.names:
            every = [one[name] for one in found.values()]
            products = top(program, name)
            self.assertEqual(products is None, None in every)
            if products is not None:
                self.assertTrue(all(below(each, products) for one in every for each in one))

    def loops_are_alike(self, program, way, found):
        """4.4: what a loop does in its flat rows is all that counts, in any order and picked or not."""
        steps = []
        for step in straight(program, way):
            if step[0] == "loop":
                block = [(word, x, ((c, one),) if word == "add" else (c, one)) for word, x, c, one in flat(program, step)]
                self.rng.shuffle(block)
                picked = (("either", ((block[0],), tuple(block[1:]))),) if len(block) > 1 else tuple(block)
                step = ("loop", step[1], picked)
            steps.append(step)
        try:
            again = Program(program.names, {}, tuple(steps))
        except BadProgram:
            return
        self.assertEqual(heights(again, ()), found)
        self.count("alike")

    def heights_hold(self, program, way, found):
        for name, products in found.items():
            self.assertEqual(height(program, way, name), products)
            tree = above(program, way, name)
            self.assertEqual(tree is None, products is not None)
            if tree is not None:
                self.assertTrue(is_above(program, way, name, tree))
                self.assertIsNone(degree(program, way, name))
                continue
            for one in products:
                grown = branch(program, way, name, one)
                self.assertTrue(is_branch(program, way, name, grown))
                self.assertEqual(branch_product(program, way, name, grown), one)
            self.assertEqual(degree(program, way, name), max(sum(power for _, power in one) for one in products))

    def runs_hold(self, program, way, found):
        """8.4, 9.2 and 12.1, held against runs and the full run."""
        told = stairs(program, way)
        self.assertTrue(is_stairs(program, way, told))
        last = told[0][-1]
        self.assertEqual({name: bound and bound[1] for name, bound in last.items()}, found)
        shares = {(name, one): share(program, way, name, one) for name, products in found.items() for one in products or ()}
        steps = steps_height(program, way)
        least = max([1] + [each for _, each in shares.values()])
        starts = {name: least + self.rng.randint(0, 3) for name in program.names}
        try:
            full = NaiveFullRun(program, way, starts, 3000)
            run = WayRun(program, way, starts, self.rng)
        except TooLong:
            return
        self.assertEqual(played(program, starts, [number for _, number in run.told]), run.numbers)
        for numbers in (full.numbers, run.numbers):
            for name, bound in last.items():
                if bound is not None:
                    self.assertLessEqual(numbers[name], bound[0] * max(naive_value(one, starts) for one in bound[1]))
        for (name, one), (many, _) in shares.items():
            self.assertGreaterEqual(many * full.numbers[name], naive_value(one, starts))
        if steps is not None:
            greatest = max(naive_value(one, starts) for one in steps)
            self.assertLessEqual(max(full.steps, run.steps) + 1, 10 ** 5 * greatest)
            self.assertGreaterEqual((full.steps + 1) * 10 ** 5, greatest)
        self.count("runs")

    def cuts_hold(self, program):
        name = self.rng.choice(program.names)
        products = tuple(((each, 1),) for each in program.names)
        found = cuts(program, name, products)
        whole = top(program, name)
        self.assertEqual(found == [()], whole is not None and all(below(one, products) for one in whole))
        for gone in found:
            left = without_rows(program, gone)
            self.assertTrue(all(below(one, products) for one in top(left, name)))
            for way in ways(program):
                self.assertTrue(lies_under(heights(left, way), heights(program, way)))
            self.assertTrue(is_covering(left, left, (name,), covering(left, left, (name,))) if len(ways(left)) <= 4 else True)
            self.count("cuts")

    def changes_hold(self, program, other):
        """14, from one program to the next; the list of the programs made."""
        made = []
        if caught(loosened, program) is None:
            loose = loosened(program)
            self.assertEqual([heights(loose, way) for way in ways(loose)], [heights(program, way) for way in ways(program)])
            made.append(loose)
        if caught(behind, program, other) is None:
            both = behind(program, other)
            way, further = self.rng.choice(ways(program)), self.rng.choice(ways(other))
            self.assertEqual(heights(both, way + further), after(heights(program, way), heights(other, further)))
            made.append(both)
            self.count("behind")
        ring = dict(zip(program.names, program.names[1:] + program.names[:1]))
        turned = renamed(program, ring)
        for way in ways(program)[:3]:
            told = {ring[name]: products and tuple(sorted(tuple(sorted((ring[each], power) for each, power in one)) for one in products))
                    for name, products in heights(program, way).items()}
            self.assertEqual(heights(turned, way), told)
        made.append(turned)
        numbers = [k for k, row in enumerate(rows(program)) if row[0] != "set"]
        if numbers:
            less = without_rows(program, [self.rng.choice(numbers)])
            for way in ways(program)[:3]:
                self.assertTrue(lies_under(heights(less, way), heights(program, way)))
            made.append(less)
        return made

    def desk_holds(self, program):
        """Write the program, read it back, tell it to a desk, and run it there."""
        text = program_text(program)
        self.assertEqual(read_program(text), program)
        desk = Desk()
        desk.tell("program it " + text.replace("\n", "|"))
        told_ways = desk.tell("ways it").split(" ")
        self.assertEqual([() if way == "-" else tuple(map(int, way.split(","))) for way in told_ways], ways(program))
        for name in program.names:
            self.assertEqual(desk.tell(f"top it {name}"), height_text(top(program, name)))
        self.assertEqual(desk.tell(f"steps it {told_ways[0]}"), height_text(steps_height(program, ways(program)[0])))
        starts = {name: self.rng.randint(1, 3) for name in program.names}
        run = Run(program, starts)
        desk.tell("begin it " + ",".join(f"{name}:{number}" for name, number in starts.items()))
        while run.choice is not None and run.steps < 200:
            self.assertEqual(desk.tell("look"), "{} {}".format(*run.choice))
            kind, many = run.choice
            number = self.rng.randint(0, min(many, 3) if kind == "loop" else many - 1)
            if desk.would(f"choose {number}") != "ok":
                break
            desk.tell(f"choose {number}")
            run.choose(number)
        self.assertEqual(desk.tell("numbers"), ",".join(f"{name}:{number}" for name, number in sorted(run.numbers.items())))
        self.compared(desk, program)

    def compared(self, desk, program):
        for name in program.names:
            if top(program, name) is None:
                self.assertEqual(caught(covered, program, program, (name,)), ("Above", name))
            elif len(ways(program)) <= 4:
                self.assertEqual(desk.tell(f"covered it it {name}"), "yes")
                self.assertIsNone(outrun(program, program, (name,)))
                self.count("compared")

    def test_from_program_to_program(self):
        pool = [program for program in some_programs(202, 150) + loopy_programs(203, 60) + turning_programs(204, 30) if len(program.names) == 3]
        for _ in range(60):
            program = self.rng.choice(pool)
            for _ in range(3):
                self.facts_hold(program)
                self.desk_holds(program)
                program = self.rng.choice(self.changes_hold(program, self.rng.choice(pool)))
        for word in ["alike", "runs", "cuts", "behind", "compared"]:
            self.assertGreater(self.seen.get(word, 0), 15, self.seen)

    def test_the_examples_of_the_document(self):
        p, r = program_p(), program_r()
        for program in (p, r, behind(p, r), behind(r, p), renamed(p, {"a": "x", "b": "a", "x": "b"}), without_rows(p, (0,))):
            self.facts_hold(program)
            self.desk_holds(program)


class JudgesTest(unittest.TestCase):
    """Functions whose names begin with is_ (0.4)."""

    def test_a_flag_for_any_object(self):
        p = program_p()
        rows_there = flat(p, straight(p, ())[0])
        judges = {"is_branch": (p, (), "x"), "is_above": (p, (), "x"), "is_stairs": (p, ()), "is_loop_paper": (p.names, rows_there),
                  "is_loop_tree": (p.names, rows_there, "x"), "is_covering": (p, p, ("x",))}
        found = []
        for module in (howhigh.abovetrees, howhigh.branches, howhigh.covers, howhigh.looppapers, howhigh.looptrees, howhigh.stairs):
            for name, judge in vars(module).items():
                if name in judges and inspect.isfunction(judge) and judge.__module__ == module.__name__:
                    found.append(name)
                    for odd in odd_things():
                        self.assertIs(type(judge(*judges[name], odd)), bool)
        self.assertEqual(sorted(found), sorted(judges))


class DepthTest(unittest.TestCase):
    """No call raises RecursionError (0.3), nor goes deeper than a few hundred calls."""

    def setUp(self):
        self.limit = sys.getrecursionlimit()
        sys.setrecursionlimit(len(inspect.stack()) + 330)

    def tearDown(self):
        sys.setrecursionlimit(self.limit)

    def test_long_and_deep_programs(self):
        names = ("a", "b", "x", "y")
        deep = ()
        for k in range(6):
            deep = (either(deep, (add("x"),)) if k % 3 else orders(deep, ()),)
        block = ()
        for _ in range(40):
            block = (loop("a", *block),)
        inner = (add("x", term(1, b=1)), lift("b", 1, x=1), add("y", term(1, a=1, x=1)))
        for program in [Program(names, {"zz": block}, deep), Program(names, {}, (loop("a"),) * 40), Program(names, {}, tuple(lift("x", 1, x=3) for _ in range(12))),
                        Program(names, {}, (loop("a", loop("b", either(inner[:1], inner[2:]))),) * 3 + (loop("y"),) * 20),
                        Program(names, {"do": (), "it": (), "so": ()}, (call("do"),) * 300)]:
            for way in ways(program)[:2]:
                for name, products in heights(program, way).items():
                    above(program, way, name)
                    for one in products or ():
                        share(program, way, name, one)
                        branch_product(program, way, name, branch(program, way, name, one))
                is_stairs(program, way, stairs(program, way))
                steps_height(program, way)
            if len(ways(program)) <= 4:
                covering(program, program, ("a",))
            loosened(program)
            renamed(program, dict(zip(names, names[::-1])))
            caught(behind, program, program)
            text = program_text(program)
            if program.bodies.get("zz") is None:
                self.assertEqual(read_program(text), program)

    def test_deep_texts_and_objects(self):
        for line in ["loop a", "either", "orders"]:
            self.assertEqual(caught(read_program, "names a\nmain\n" + f"{line}\n" * 20000), ("BadText", 32))
            self.assertEqual(caught(Desk().tell, "program a names a|main|" + f"{line}|" * 20000), ("BadText", 32))
        for odd in odd_things():
            for action in (behind, covered):
                caught(action, program_p(), odd, *([("x",)] if action is covered else []))
            caught(cuts, program_p(), "x", odd)
            caught(renamed, program_p(), odd)
            caught(Desk().tell, odd)
            caught(share, program_p(), (), "x", odd)


class CopiesTest(unittest.TestCase):
    """What is handed in stays, what is returned is new, and equal arguments have equal answers (0.4)."""

    def answers(self, program):
        out = [rows(program), ways(program), loosened(program) if caught(loosened, program) is None else None, program_text(program), tops(program)]
        for way in ways(program)[:2]:
            found = heights(program, way)
            out += [found, stairs(program, way), steps_height(program, way), straight(program, way), after(found, found)]
            out += [share(program, way, name, one) for name, products in found.items() for one in products or ()]
            for step in straight(program, way):
                if step[0] == "loop":
                    there = flat(program, step)
                    out += [parts(program.names, there), doubling(program.names, there), loop_heights(program.names, there)]
                    paper = loop_paper(program.names, there)
                    self.assertTrue(is_loop_paper(program.names, there, paper))
                    out += [paper, [sum_text(terms) for _, terms in paper]]
        name = program.names[0]
        if len(ways(program)) <= 4 and top(program, name) is not None:
            out += [covering(program, program, (name,)), outrun(program, program, (name,))]
        if naive_rows(program.main, program.bodies) <= 5:
            out.append(cuts(program, name, (((name, 1),),)))
        return out

    def emptied(self, thing):
        """Empty all lists and dicts in the thing."""
        for inner in list(thing.values()) if isinstance(thing, dict) else thing if isinstance(thing, (list, tuple)) else []:
            self.emptied(inner)
        if isinstance(thing, (list, dict)):
            thing.clear()

    def test_many_programs(self):
        for program in some_programs(205, 40) + loopy_programs(206, 30) + turning_programs(207, 15):
            again = Program(copy.deepcopy(program.names), copy.deepcopy(program.bodies), copy.deepcopy(program.main))
            first = self.answers(program)
            kept = copy.deepcopy([one for one in first if not isinstance(one, Program)])
            self.emptied([one for one in first if not isinstance(one, Program)])
            for each in (program, again):
                self.assertEqual([one for one in self.answers(each) if not isinstance(one, Program)], kept)
            self.assertEqual(program, again)

    def test_texts(self):
        self.assertEqual(product_text((("a", 2),)), product_text((("a", 2),)))
        self.assertEqual(program_text(program_p()), program_text(program_p()))


if __name__ == "__main__":
    unittest.main()
