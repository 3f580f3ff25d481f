"""Starts (3.1)."""

from howhigh.errors import BadStarts
from howhigh.kinds import is_integer


def check_starts(program, starts):
    """Raise BadStarts unless starts is a dict from just the names of the program to integers from 1 on."""
    if not isinstance(starts, dict) or len(starts) != len(program.names):
        raise BadStarts()
    for name in program.names:
        if name not in starts or not is_integer(starts[name]) or starts[name] < 1:
            raise BadStarts()
