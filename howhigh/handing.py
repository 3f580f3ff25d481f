"""How names are handed on by flat rows (4.2 and 4.3)."""


def givers(names, flat):
    """A dict from each name to the list of the names that are handed on to it, directly or by other names."""
    found = {name: [] for name in names}
    todo = [(name, giver) for _, name, _, product in flat for giver, _ in product]
    while todo:
        name, giver = todo.pop()
        if giver not in found[name]:
            found[name].append(giver)
            todo.extend([(name, further) for further in found[giver]])
            todo.extend([(further, giver) for further in names if name in found[further]])
    return found


def hands_on_plainly(row, part):
    """Whether the row is a lift by just one name of the part, with the power 1 and the coefficient 1."""
    word, _, coefficient, product = row
    return (word == "lift" and coefficient == 1 and len(product) == 1
            and product[0][1] == 1 and product[0][0] in part)


def numbers_of(name, flat):
    """The list of the numbers of the flat rows of a name."""
    return [number for number, row in enumerate(flat) if row[1] == name]


def raising(part, flat):
    """The list of the numbers of the flat rows of names of the part, but those that only hand on in it plainly."""
    return [number for number, row in enumerate(flat) if row[1] in part and not hands_on_plainly(row, part)]
