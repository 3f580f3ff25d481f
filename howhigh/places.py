"""Places of runs: where a run stands ahead of a choice, or over (3.1 and 3.2)."""

from howhigh.kinds import is_integer
from howhigh.statements import choices_at, chosen_blocks
from howhigh.tallies import Tally


class Place:
    """Where a run stands; it never changes.

    todo are the statements that are still to do, the next one last, and among them
    ("rounds", block, left) for a loop of which so many rounds are not begun;
    held are the numbers, steps counts the steps done, choice is what is to be chosen.
    """

    def __init__(self, todo, held, steps, choice):
        self.todo = todo
        self.held = held
        self.steps = steps
        self.choice = choice


def first_place(program, starts):
    """The place ahead of the first choice of the run from these starts, which are right."""
    return _gone_on(list(program.whole[::-1]), starts, 0)


def can_choose(choice, number):
    """Whether the number, an object of any kind, can be chosen where this is the choice."""
    if choice is None or not is_integer(number):
        return False
    kind, many = choice
    return 0 <= number < many or (kind == "loop" and number == many)


def place_behind(place, number):
    """The place ahead of the next choice, where this number, which is right, is chosen."""
    todo = list(place.todo)
    statement = todo.pop()
    if statement[0] == "loop":
        todo.append(("rounds", statement[2], number))
    else:
        for block in chosen_blocks(statement, number)[::-1]:
            todo.extend(block[::-1])
    return _gone_on(todo, place.held, place.steps)


def _gone_on(todo, held, steps):
    """The place that is reached without a choice; todo is used up."""
    tally = Tally(held, steps)
    choice = None
    while todo and choice is None:
        statement = todo[-1]
        choice = _choice_of(statement, tally.held)
        if choice is None:
            todo.pop()
            _do(statement, todo, tally)
    return Place(tuple(todo), tally.held, tally.steps, choice)


def _choice_of(statement, held):
    """What is to be chosen at a statement, None if nothing."""
    if statement[0] == "loop":
        return ("loop", held[statement[1]])
    if statement[0] in ("either", "orders"):
        return (statement[0], choices_at(statement))
    return None


def _do(statement, todo, tally):
    """Do a row, or begin a round of those that are left."""
    if statement[0] != "rounds":
        tally.do_row(statement)
        return
    _, block, left = statement
    if left > 0:
        tally.begin_round()
        todo.append(("rounds", block, left - 1))
        todo.extend(block[::-1])
