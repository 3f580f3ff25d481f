"""The ways of a program and the steps of a way (2.4)."""

from howhigh.errors import BadWay
from howhigh.kinds import are_integers
from howhigh.statements import CHOICE_WORDS, choices_at, chosen_blocks


def ways(program):
    """The strictly ascending list of the ways of the program."""
    return block_ways(program.whole)


def block_ways(block):
    """The strictly ascending list of the ways of a block that is written out."""
    return _through_all([block])


def _through_all(blocks):
    """The ascending list of the ways through these blocks, one behind the other."""
    found = [()]
    for block in blocks:
        for statement in block:
            if statement[0] in CHOICE_WORDS:
                behind = _choice_ways(statement)
                found = [way + further for way in found for further in behind]
    return found


def _choice_ways(statement):
    """The ascending list of the ways through an either or orders."""
    found = []
    for number in range(choices_at(statement)):
        found.extend([(number, *way) for way in _through_all(chosen_blocks(statement, number))])
    return found


def check_way(program, way):
    """Raise BadWay for what is no way of the program."""
    if not are_integers(way) or way not in ways(program):
        raise BadWay()


def straight(program, way):
    """The tuple of the rows and loops that main does by this way outside loops, loops as they stand."""
    check_way(program, way)
    return steps_of(program.main, program.bodies, way)


def steps_of(block, bodies, way):
    """The tuple of the rows and loops that a block that calls these bodies does by a way of it outside loops."""
    done = []
    choices = list(way[::-1])
    todo = list(block[::-1])
    while todo:
        statement = todo.pop()
        if statement[0] == "call":
            todo.extend(bodies[statement[1]][::-1])
        elif statement[0] in CHOICE_WORDS:
            for block in chosen_blocks(statement, choices.pop())[::-1]:
                todo.extend(block[::-1])
        else:
            done.append(statement)
    return tuple(done)
