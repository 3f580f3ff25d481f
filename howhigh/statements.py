"""Statements and the blocks in them (2.1)."""

from itertools import permutations

ROW_WORDS = ("add", "lift", "set")
CHOICE_WORDS = ("either", "orders")


def blocks_in(statement):
    """The blocks that stand in the statement, in the order of reading."""
    if statement[0] == "loop":
        return (statement[2],)
    if statement[0] in CHOICE_WORDS:
        return statement[1]
    return ()


def with_blocks(statement, blocks):
    """The statement with these blocks in the place of those that stand in it."""
    if statement[0] == "loop":
        return ("loop", statement[1], blocks[0])
    if statement[0] in CHOICE_WORDS:
        return (statement[0], tuple(blocks))
    return statement


def written_out(block, bodies):
    """The block with the statements of these bodies, which are written out, in the place of its calls."""
    out = []
    for statement in block:
        if statement[0] == "call":
            out.extend(bodies[statement[1]])
        else:
            out.append(with_blocks(statement, [written_out(inner, bodies) for inner in blocks_in(statement)]))
    return tuple(out)


def whole_of(block, bodies):
    """A block of a program with these bodies, written out."""
    known = {}
    # A body calls greater words only: the greatest one comes first.
    for word in sorted(bodies, reverse=True):
        known[word] = written_out(bodies[word], known)
    return written_out(block, known)


def terms_of(row):
    """The terms of a row: those of its sum, or the one of a lift."""
    return (row[2],) if row[0] == "lift" else row[2]


def orders_of(many):
    """The ascending list of the orders of so many blocks."""
    return list(permutations(range(many)))


def choices_at(statement):
    """How many choices there are at an either or orders."""
    if statement[0] == "either":
        return len(statement[1])
    return len(orders_of(len(statement[1])))


def chosen_blocks(statement, number):
    """The list of the blocks that an either or orders does by this choice, in the order in which it does them."""
    blocks = statement[1]
    if statement[0] == "either":
        return [blocks[number]]
    return [blocks[k] for k in orders_of(len(blocks))[number]]
