"""The names of a program as arguments."""

from howhigh.errors import NoName
from howhigh.forms import is_one_of


def check_name(program, name):
    """Raise NoName for what is no name of the program."""
    if not is_one_of(program.names, name):
        raise NoName(name)
