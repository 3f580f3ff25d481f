"""What integers, names and rows are (0.2), told of objects of any kind."""

LONGEST_NAME = 8


def is_integer(thing):
    """Whether it is an integer; a flag is none."""
    return isinstance(thing, int) and not isinstance(thing, bool)


def are_integers(thing):
    """Whether they are a tuple of integers."""
    return isinstance(thing, tuple) and all([is_integer(number) for number in thing])


def is_name(thing):
    """Whether it is a string of 1 to 8 letters from a to z."""
    if not isinstance(thing, str) or not 1 <= len(thing) <= LONGEST_NAME:
        return False
    return all(["a" <= letter <= "z" for letter in thing])


def is_row(thing):
    """Whether it is a list or a tuple."""
    return isinstance(thing, (list, tuple))


def ascending(things):
    """Whether a row of things that can be compared is strictly ascending."""
    return all([things[k] < things[k + 1] for k in range(len(things) - 1)])


def is_made(thing, word, many):
    """Whether it is a tuple of so many things, the first one this word."""
    return isinstance(thing, tuple) and len(thing) == many and isinstance(thing[0], str) and thing[0] == word


def is_number_of(things, thing):
    """Whether it is the number, from 0, of one of the things."""
    return is_integer(thing) and 0 <= thing < len(things)
