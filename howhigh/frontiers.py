"""The greatest numbers of all runs from given starts (3.5).

The rows are done with all tuples of numbers at once that runs can come to. Tuples over which another
one stands are left out on the way, and of each loop all rounds are done: by the fact of 3.5 nothing
of the frontier is lost so. With each tuple goes how it was reached: None at the beginning, otherwise
the pair of the last choice and how the tuple ahead of it was reached.
"""

from howhigh.errors import NotTop
from howhigh.kinds import are_integers
from howhigh.names import check_name
from howhigh.starts import check_starts
from howhigh.statements import CHOICE_WORDS, choices_at, chosen_blocks
from howhigh.tallies import number_behind


def frontier(program, starts):
    """The strictly ascending list of the tuples of the frontier."""
    return sorted(_tops(program, starts))


def choices_to(program, starts, numbers):
    """The list of the choices of a run that ends with these numbers of the frontier."""
    tops = _tops(program, starts)
    if not are_integers(numbers) or numbers not in tops:
        raise NotTop()
    choices = []
    reached = tops[numbers]
    while reached is not None:
        number, reached = reached
        choices.append(number)
    return choices[::-1]


def greatest(program, starts, name):
    """The greatest number of the name at the end of a run."""
    tops = _tops(program, starts)
    check_name(program, name)
    at = program.names.index(name)
    return max([numbers[at] for numbers in tops])


def _tops(program, starts):
    """The tuples of the frontier, each with how it was reached."""
    check_starts(program, starts)
    first = tuple([starts[name] for name in program.names])
    ends = _through(program.whole, {first: None}, program.names)
    return highest(ends)


def _through(block, tuples, names):
    """The tuples behind a block."""
    for statement in block:
        if statement[0] == "loop":
            tuples = _through_loop(statement, tuples, names)
        elif statement[0] in CHOICE_WORDS:
            tuples = _through_choice(statement, tuples, names)
        else:
            tuples = _through_row(statement, tuples, names)
    return tuples


def _through_row(row, tuples, names):
    """The tuples behind a row."""
    at = names.index(row[1])
    found = {}
    for numbers in tuples:
        number = number_behind(row, dict(zip(names, numbers)))
        found.setdefault((*numbers[:at], number, *numbers[at + 1:]), tuples[numbers])
    return found


def _through_choice(statement, tuples, names):
    """The tuples behind an either or orders."""
    found = {}
    for number in range(choices_at(statement)):
        ahead = {numbers: (number, tuples[numbers]) for numbers in tuples}
        for block in chosen_blocks(statement, number):
            ahead = _through(block, ahead, names)
        found = highest(_both(found, ahead))
    return found


def _through_loop(loop, tuples, names):
    """The tuples behind all rounds of a loop.

    The tuples with the most rounds begin; those with less join them when just so many rounds are left,
    so that a tuple is left out only if the one over it has the same rounds before it.
    """
    at = names.index(loop[1])
    waiting = {}
    for numbers in tuples:
        waiting.setdefault(numbers[at], {})[numbers] = (numbers[at], tuples[numbers])
    going = {}
    for left in range(max(waiting), 0, -1):
        if left in waiting:
            going = highest(_both(going, waiting[left]))
        going = _through(loop[2], going, names)
    return going


def _both(one, other):
    """The tuples of both, each as it was reached in one if it is there."""
    found = {numbers: one[numbers] for numbers in one}
    for numbers in other:
        found.setdefault(numbers, other[numbers])
    return found


def highest(tuples):
    """Those of the tuples, keys of a dict, over which no other one stands."""
    rows = list(tuples)
    # One bit for each tuple: at the end just those of the tuples that stand over this one are left.
    over = [(1 << len(rows)) - 1 for numbers in rows]
    for column in zip(*rows):
        masks = _not_less(column)
        over = [over[k] & masks[column[k]] for k in range(len(rows))]
    return {rows[k]: tuples[rows[k]] for k in range(len(rows)) if over[k] == 1 << k}


def _not_less(column):
    """A dict from each number in a column to the bits of the places at which it is not less."""
    same = {}
    for k, number in enumerate(column):
        same[number] = same.get(number, 0) | 1 << k
    bits = 0
    found = {}
    for number in sorted(same, reverse=True):
        bits = bits | same[number]
        found[number] = bits
    return found
