"""The height of the steps (section 12)."""

from howhigh.climbs import climbed
from howhigh.hulls import lean
from howhigh.statements import ROW_WORDS, blocks_in, with_blocks
from howhigh.ways import check_way, steps_of

# No name of a program, so that it is a further one.
COUNTED = "+"


def steps_height(program, way):
    """The height of a further name that is raised by 1 in each step of runs of the way, without this name itself."""
    check_way(program, way)
    steps = steps_of(_counting(program.whole), {}, way)
    found = climbed((COUNTED, *program.names), steps)[-1][COUNTED]
    if found is None:
        return None
    # It is raised by constants only, so it stands in no product but that of it alone.
    return lean([() if product == ((COUNTED, 1),) else product for product in found])


def _counting(block):
    """The block, written out, with a row that counts behind each row and at the beginning of each round."""
    count = ("add", COUNTED, ((1, ()),))
    out = []
    for statement in block:
        if statement[0] in ROW_WORDS:
            out.extend([statement, count])
        elif statement[0] == "loop":
            out.append(("loop", statement[1], (count, *_counting(statement[2]))))
        else:
            out.append(with_blocks(statement, [_counting(inner) for inner in blocks_in(statement)]))
    return tuple(out)
