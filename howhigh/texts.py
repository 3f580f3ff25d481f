"""The texts of products, sums, heights and programs (15.1 and 15.2)."""

SEPARATORS = {"either": "or", "orders": "also"}


def product_text(product):
    """The text of a product; "#" is written like a name."""
    if not product:
        return "1"
    return "*".join([name if power == 1 else f"{name}^{power}" for name, power in product])


def _term_text(term):
    """The text of a term."""
    coefficient, product = term
    if not product:
        return str(coefficient)
    if coefficient == 1:
        return product_text(product)
    return f"{coefficient}*{product_text(product)}"


def sum_text(terms):
    """The text of a sum."""
    return "+".join([_term_text(term) for term in terms])


def height_text(height):
    """The text of a height."""
    if height is None:
        return "-"
    return ",".join([product_text(product) for product in height])


def program_text(program):
    """The text of a program, its lines closed by line feeds."""
    lines = [" ".join(["names", *program.names])]
    bodies = program.bodies
    for word in sorted(bodies):
        lines.extend([f"body {word}", *_block_lines(bodies[word]), "done"])
    lines.extend(["main", *_block_lines(program.main), "done"])
    return "".join([f"{line}\n" for line in lines])


def _block_lines(block):
    """The list of the lines of the statements of a block."""
    lines = []
    for statement in block:
        lines.extend(_statement_lines(statement))
    return lines


def _statement_lines(statement):
    """The list of the lines of a statement."""
    word = statement[0]
    if word == "call":
        return [f"call {statement[1]}"]
    if word == "loop":
        return [f"loop {statement[1]}", *_block_lines(statement[2]), "done"]
    if word == "lift":
        return [f"lift {statement[1]} {_term_text(statement[2])}"]
    if word in SEPARATORS:
        return _choice_lines(statement)
    return [f"{word} {statement[1]} {sum_text(statement[2])}"]


def _choice_lines(statement):
    """The list of the lines of an either or orders."""
    word, blocks = statement
    lines = [word]
    for number, block in enumerate(blocks):
        if number > 0:
            lines.append(SEPARATORS[word])
        lines.extend(_block_lines(block))
    return [*lines, "done"]
