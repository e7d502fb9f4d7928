"""Forms: what pieces say, with other names in place of theirs."""

from foldsame.programs import name_place


def first_names(parts):
    """For each name in a partition the first one of its part."""
    return {name: part[0] for part in parts for name in part}


def renamed_row(row, bodies, addresses):
    """A row with what bodies has for a NAME that it calls or reads, and addresses for one that it takes."""
    if isinstance(row, int):
        return row
    if isinstance(row, str):
        return addresses[row]
    place = name_place(row)
    if place is None:
        return row
    names = addresses if row[0] == "addr" else bodies
    return (*row[:place], names[row[place]], *row[place + 1:])


def form_of(program, name, bodies, addresses):
    """The kind and the renamed rows of a piece: pieces agree if these are equal."""
    rows = [renamed_row(row, bodies, addresses) for row in program.rows_of(name)]
    return (program.kind_of(name), tuple(rows))


def in_order(one, other):
    """Two names as an ascending pair."""
    return (min(one, other), max(one, other))


def pairs_of(names):
    """All pairs of ascending names, in order, the earlier name first."""
    return [(one, other) for place, one in enumerate(names) for other in names[place + 1:]]
