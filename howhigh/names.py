"""The names of programs as arguments."""

from howhigh.errors import NoName, Unlike
from howhigh.forms import is_one_of
from howhigh.programs import Program


def check_name(program, name):
    """Raise NoName for what is no name of the program."""
    if not is_one_of(program.names, name):
        raise NoName(name)


def check_alike(one, other):
    """Raise Unlike unless both are programs with the same names."""
    if not isinstance(one, Program) or not isinstance(other, Program) or one.names != other.names:
        raise Unlike()
