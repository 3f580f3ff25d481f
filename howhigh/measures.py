"""What 2.2 bounds in blocks, counted without writing them out: a block that is called is counted once."""

from howhigh.statements import ROW_WORDS, blocks_in, orders_of


class Measure:
    """The counts of a block, written out; to begin with those of an empty one."""

    def __init__(self):
        self.statements = 0
        self.rows = 0
        self.deep = 0
        self.loops_deep = 0
        self.ways = 1
        self.widest_loop = 1

    def go_on_with(self, part):
        """Count in what stands behind."""
        self.statements += part.statements
        self.rows += part.rows
        self.deep = max(self.deep, part.deep)
        self.loops_deep = max(self.loops_deep, part.loops_deep)
        self.ways = self.ways * part.ways
        self.widest_loop = max(self.widest_loop, part.widest_loop)


def measure(block, known):
    """The counts of a block; known has those of the words that it calls."""
    whole = Measure()
    for statement in block:
        whole.go_on_with(_measure_of(statement, known))
    return whole


def _measure_of(statement, known):
    """The counts of a statement."""
    if statement[0] == "call":
        return known[statement[1]]
    whole = Measure()
    whole.statements = 1
    if statement[0] in ROW_WORDS:
        whole.rows = 1
        return whole
    parts = [measure(block, known) for block in blocks_in(statement)]
    for part in parts:
        whole.go_on_with(part)
    whole.deep += 1
    if statement[0] == "either":
        whole.ways = sum([part.ways for part in parts])
    elif statement[0] == "orders":
        whole.ways = whole.ways * len(orders_of(len(parts)))
    else:
        whole.widest_loop = max(whole.widest_loop, whole.ways)
        whole.ways = 1
        whole.loops_deep += 1
    return whole
