"""A checker for papers of any author: it goes from a state to its next event alone, and finds likeness by itself."""

from foldsame.foldings import Folding, partitions
from foldsame.forms import first_names, form_of
from foldsame.images import Image
from foldsame.likeness import check_path, is_partition, within_parts
from foldsame.machine import MOST_FRAMES, Steps, begin, passed
from foldsame.sizes import size_from
from foldsame.texts import REGISTERS, is_integer

GREATEST_INTEGER = 99


def is_pair(value):
    """Whether any value is a tuple of two."""
    return isinstance(value, tuple) and len(value) == 2


def is_frame(code, value):
    """Whether any value is a frame of a function of a code."""
    if not is_pair(value) or value[0] not in code or code.kind_of(value[0]) != "func":
        return False
    return is_integer(value[1]) and 0 <= value[1] <= len(code.rows_of(value[0]))


def is_value(code, value):
    """Whether any value is one that a register may have."""
    if is_pair(value):
        return all([isinstance(word, str) for word in value]) and value[0] == "at" and value[1] in code.taken
    return is_integer(value) and 0 <= value <= GREATEST_INTEGER


def is_state(code, value):
    """Whether any value is a state of a code."""
    if not is_pair(value):
        return False
    frames, registers = value
    if not isinstance(frames, tuple) or not 1 <= len(frames) <= MOST_FRAMES:
        return False
    if not isinstance(registers, tuple) or len(registers) != len(REGISTERS):
        return False
    return all([is_frame(code, frame) for frame in frames]) and all([is_value(code, held) for held in registers])


def pairs_closed(one, other, first, value):
    """What check_together tells, by the Steps of two codes."""
    if not isinstance(value, list) or not all([is_pair(pair) for pair in value]):
        return False
    if not all([is_state(one.code, here) and is_state(other.code, there) for here, there in value]):
        return False
    known = {pair: True for pair in value}
    if not all([pair in known for pair in first]):
        return False
    for here, there in value:
        run, companion = one.run_from(here), other.run_from(there)
        if run.event != companion.event:
            return False
        if not all([pair in known for pair in zip(run.followers, companion.followers)]):
            return False
    return True


def begins_closed(one, other, value):
    """What check_table tells, by the Steps of the program and the image."""
    return pairs_closed(one, other, [(begin(one.code), begin(other.code))], value)


def check_together(one, other, first, value):
    """Whether any value is a list of pairs of states that has all first ones and all that follow, and no unlike one."""
    return pairs_closed(Steps(one), Steps(other), first, value)


def check_table(program, image, value):
    """Whether any value is such a list for the beginnings of a program and an image."""
    return begins_closed(Steps(program), Steps(image), value)


def moment_right(one, other, value):
    """What check_moment tells, by the Steps of the program and the image."""
    here, there = passed(one, value), passed(other, value)
    if here is None or there is None or here[0] != there[0]:
        return False
    return one.run_from(here[1]).event != other.run_from(there[1]).event


def check_moment(program, image, value):
    """Whether any value is a moment of both up to which all events are alike, and behind which the next are not."""
    return moment_right(Steps(program), Steps(image), value)


def moments_reach(steps, value, least):
    """What check_size tells, by the Steps of the image."""
    if not isinstance(value, list):
        return False
    found = [passed(steps, moment) for moment in value]
    if any([one is None for one in found]):
        return False
    return size_from(steps, [state for _, state in found]) >= least


def check_size(image, value, least):
    """Whether any value is a list of moments from which an image uses what has at least this size."""
    return moments_reach(Steps(image), value, least)


def parted(program, homes, parts):
    """The pieces by what they say if the pieces of each part are one."""
    firsts = first_names(parts)
    found = {}
    for name in program.pieces:
        found.setdefault(form_of(program, name, firsts, homes), []).append(name)
    return tuple([tuple(part) for part in found.values()])


def like_bodies(program, addresses):
    """The greatest stable partition: all pieces are one at first, and are parted until those of a part agree."""
    homes = first_names(addresses)
    parts, finer = (), (program.pieces,)
    while len(finer) > len(parts):
        parts = finer
        finer = parted(program, homes, parts)
    return parts


def image_of(program, addresses):
    """The image with these addresses and the greatest stable bodies, or None if these do not hold the addresses."""
    bodies = like_bodies(program, addresses)
    if not all([within_parts(bodies, part) for part in addresses]):
        return None
    return Image(Folding(program, addresses, bodies))


def apart_right(program, addresses, pair, path):
    """Whether any values are two pieces of one address and a path that shows them unlike."""
    if not is_pair(pair) or not all([name in program for name in pair]) or not within_parts(addresses, pair):
        return False
    return check_path(program, addresses, pair[0], pair[1], path)


def entry_right(steps, addresses, least, entry):
    """Whether any value is a right entry for addresses, where an image of at least this size is large."""
    if not isinstance(entry, tuple) or len(entry) == 0 or not isinstance(entry[0], str):
        return False
    if entry[0] == "apart":
        return len(entry) == 3 and apart_right(steps.code, addresses, entry[1], entry[2])
    image = image_of(steps.code, addresses)
    if image is None or len(entry) != 2:
        return False
    if entry[0] == "noticed":
        return moment_right(steps, Steps(image), entry[1])
    return entry[0] == "large" and moments_reach(Steps(image), entry[1], least)


def entries_right(steps, addresses, least, entries):
    """Whether any value is a list of right entries for all other partitions, in order."""
    wanted = partitions(steps.code.taken)
    place = wanted.index(addresses)
    if not isinstance(entries, list) or len(entries) != len(wanted) - 1:
        return False
    # Of equal sizes the first image is the smallest: one that stands ahead has to be larger.
    ahead = [entry_right(steps, other, least + 1, entry) for other, entry in zip(wanted[:place], entries)]
    behind = [entry_right(steps, other, least, entry) for other, entry in zip(wanted[place + 1:], entries[place:])]
    return all(ahead) and all(behind)


def check_smallest(program, value):
    """Whether any value is a paper that shows the smallest image of a program."""
    if not isinstance(value, tuple) or len(value) != 3 or not is_partition(program.taken, value[0]):
        return False
    addresses, pairs, entries = value
    image = image_of(program, addresses)
    if image is None:
        return False
    steps, image_steps = Steps(program), Steps(image)
    if not begins_closed(steps, image_steps, pairs):
        return False
    least = size_from(image_steps, [there for _, there in pairs])
    return entries_right(steps, addresses, least, entries)
