"""Noticing: whether some run tells an image from its program, and what runs use."""

from foldsame.machine import Steps
from foldsame.sizes import size_of, used_from
from foldsame.walking import begin_both, walk_alone, walk_together


def unlike_moment(one, other, first, second):
    """The least moment from which the next events of two codes are unlike, or None. Raises LimitExceeded."""
    walk, unlike = walk_together(Steps(one), Steps(other), (first, second))
    return None if unlike is None else walk.moments[unlike]


def together(one, other, first, second):
    """The list of all pairs of states that two codes reach together, or None. Raises LimitExceeded."""
    walk, unlike = walk_together(Steps(one), Steps(other), (first, second))
    return list(walk.found) if unlike is None else None


def notice(program, image):
    """The least moment at which an image is noticed, or None. Raises LimitExceeded."""
    first, second = begin_both(program, image)
    return unlike_moment(program, image, first, second)


def table(program, image):
    """The list of all pairs of states of a program and an image, or None if it is noticed. Raises LimitExceeded."""
    first, second = begin_both(program, image)
    return together(program, image, first, second)


def uses(code):
    """The ascending bodies and addresses that some run of a code uses. Raises LimitExceeded."""
    steps = Steps(code)
    return used_from(steps, walk_alone(steps).found)


def size(image):
    """The size of an image: of what its runs use. Raises LimitExceeded."""
    return size_of(image, uses(image))
