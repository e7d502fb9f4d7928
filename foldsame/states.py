"""States: whether any value is one of a code."""

from foldsame.machine import MOST_FRAMES
from foldsame.texts import REGISTERS, is_integer

GREATEST_INTEGER = 99


def is_pair(value):
    """Whether any value is a tuple of two."""
    return isinstance(value, tuple) and len(value) == 2


def is_frame(code, value):
    """Whether any value is a frame of a function of a code."""
    if not is_pair(value) or value[0] not in code or code.kind_of(value[0]) != "func":
        return False
    return is_integer(value[1]) and 0 <= value[1] <= len(code.rows_of(value[0]))


def are_frames(code, value):
    """Whether any value is the frames of a state of a code."""
    if not isinstance(value, tuple) or not 1 <= len(value) <= MOST_FRAMES:
        return False
    return all([is_frame(code, frame) for frame in value])


def is_value(code, value):
    """Whether any value is one that a register may have."""
    if is_pair(value):
        return all([isinstance(word, str) for word in value]) and value[0] == "at" and value[1] in code.taken
    return is_integer(value) and 0 <= value <= GREATEST_INTEGER


def is_state(code, value):
    """Whether any value is a state of a code."""
    if not is_pair(value):
        return False
    frames, registers = value
    if not are_frames(code, frames) or not isinstance(registers, tuple) or len(registers) != len(REGISTERS):
        return False
    return all([is_value(code, held) for held in registers])
