"""Full runs (3.4)."""

from howhigh.starts import check_starts
from howhigh.statements import CHOICE_WORDS, blocks_in, chosen_blocks, with_blocks
from howhigh.tallies import Tally
from howhigh.ways import block_ways, check_way


def full_run(program, way, starts):
    """The pair of the numbers at the end of the full run of the way, and of its choices."""
    check_way(program, way)
    check_starts(program, starts)
    full = FullRun(starts)
    full.do(_with_turns(program.whole), way)
    return (full.tally.held, full.choices)


def _with_turns(block):
    """The block with each loop as a tuple of "loop", its name, its block and the ways of its block."""
    out = []
    for statement in block:
        if statement[0] == "loop":
            out.append(("loop", statement[1], _with_turns(statement[2]), block_ways(statement[2])))
        else:
            out.append(with_blocks(statement, [_with_turns(inner) for inner in blocks_in(statement)]))
    return tuple(out)


class FullRun:
    """A full run as it goes on."""

    def __init__(self, starts):
        self.tally = Tally(starts, 0)
        self.choices = []

    def do(self, block, way):
        """Do a block by a way of it."""
        self._do_by(block, list(way[::-1]))

    def _do_by(self, block, ahead):
        """Do a block by the choices ahead, the next one last; those that it makes are taken away."""
        for statement in block:
            if statement[0] == "loop":
                self._do_loop(statement)
            elif statement[0] in CHOICE_WORDS:
                number = ahead.pop()
                self.choices.append(number)
                for inner in chosen_blocks(statement, number):
                    self._do_by(inner, ahead)
            else:
                self.tally.do_row(statement)

    def _do_loop(self, loop):
        """Do all rounds of a loop, by the ways of its block in turn."""
        _, name, block, turns = loop
        rounds = self.tally.held[name]
        self.choices.append(rounds)
        for number in range(rounds):
            self.tally.begin_round()
            self.do(block, turns[number % len(turns)])
