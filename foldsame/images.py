"""Images: what a folding makes of a program, and the texts of such images."""

from foldsame.errors import BadText, UnknownName
from foldsame.forms import first_names, form_of, renamed_row
from foldsame.likeness import is_partition
from foldsame.programs import means_right, name_place
from foldsame.readings import read_rows
from foldsame.texts import row_line, target_of


def numbers_of(parts):
    """The number of each part, by its first name."""
    return {part[0]: number for number, part in enumerate(parts)}


def numbered_line(row, bodies, addresses):
    """A row of an image as it stands in the text, by the numbers of bodies and addresses."""
    line = row_line(renamed_row(row, bodies, addresses))
    return "@" + line if isinstance(row, str) else line


def image_lines(linked):
    """The rows of the text of an image."""
    bodies, addresses = numbers_of(linked.body_parts), numbers_of(linked.address_parts)
    lines = [f"image {bodies[linked.entry]}"]
    for part in linked.address_parts:
        lines.append(f"address {bodies[linked.home_of(part[0])]} " + " ".join(part))
    for part in linked.body_parts:
        lines.append(linked.kind_of(part[0]) + " " + " ".join(part))
        lines.extend([numbered_line(row, bodies, addresses) for row in linked.rows_of(part[0])])
        lines.append("end")
    return lines


class Linked:
    """An image: bodies and addresses, each with the pieces for which it stands."""

    def __init__(self, entry, address_parts, body_parts, forms):
        self.entry = entry
        self.address_parts = address_parts
        self.body_parts = body_parts
        self.bodies = tuple([part[0] for part in body_parts])
        self.taken = tuple([part[0] for part in address_parts])
        self._forms = {name: forms[name] for name in self.bodies}
        firsts = first_names(body_parts)
        self._homes = {name: firsts[name] for name in self.taken}
        self._lines = image_lines(self)

    def kind_of(self, name):
        """The kind of a body. Raises UnknownName."""
        if name not in self:
            raise UnknownName(name)
        return self._forms[name][0]

    def rows_of(self, name):
        """The rows of a body, with the names of bodies and addresses. Raises UnknownName."""
        if name not in self:
            raise UnknownName(name)
        return self._forms[name][1]

    def home_of(self, name):
        """The body to which an address goes. Raises UnknownName."""
        if not isinstance(name, str) or name not in self._homes:
            raise UnknownName(name)
        return self._homes[name]

    def keeps(self, body, address=None):
        """Whether a body and an address are kept: an image leaves nothing out."""
        return True

    def __contains__(self, name):
        return isinstance(name, str) and name in self._forms

    def __len__(self):
        return len(self.bodies)

    def __iter__(self):
        return iter(self.bodies)

    def __str__(self):
        return "\n".join(self._lines)

    def __eq__(self, other):
        return isinstance(other, Linked) and self._lines == other._lines


class Image(Linked):
    """The image of a folding."""

    def __init__(self, folding):
        firsts, homes = first_names(folding.bodies), first_names(folding.addresses)
        forms = {part[0]: form_of(folding.program, part[0], firsts, homes) for part in folding.bodies}
        entry = folding.body_of(folding.program.entry)
        Linked.__init__(self, entry, folding.addresses, folding.bodies, forms)
        self.folding = folding


def are_parts(value):
    """Whether tuples of names are a partition of all the names in them."""
    return is_partition(tuple(sorted(set([name for part in value for name in part]))), value)


def homes_right(addresses, bodies):
    """Whether each address, a number and its names, lies within the body of this number."""
    return all([number < len(bodies) and all([name in bodies[number] for name in names])
                for number, names in addresses])


def named_row(row, bodies, addresses):
    """A row that was read, with names for its numbers, or None if a number is that of nothing."""
    if isinstance(row, int):
        return row
    if row[0] == "at":
        return addresses[row[1]] if row[1] < len(addresses) else None
    place = name_place(row)
    if place is None:
        return row
    names = addresses if row[0] == "addr" else bodies
    return (*row[:place], names[row[place]], *row[place + 1:]) if row[place] < len(names) else None


def instruction_right(row, many, forms):
    """Whether a function of so many rows may have this one: its TO is not too great, and its NAME means what it may."""
    target = target_of(row)
    if target is not None and target > many:
        return False
    place = name_place(row)
    if place is None or row[0] == "addr":
        return True
    kind, rows = forms[row[place]]
    return means_right(row, kind, len(rows))


def named_forms(read, bodies, addresses):
    """The form of each body that was read, by its name, or None if a row of one breaks a rule."""
    forms = {}
    for kind, names, rows in read:
        named = [named_row(row, bodies, addresses) for row in rows]
        if any([row is None for row in named]):
            return None
        forms[names[0]] = (kind, tuple(named))
    for kind, rows in list(forms.values()):
        if kind == "func" and not all([instruction_right(row, len(rows), forms) for row in rows]):
            return None
    return forms


def linked_of(reading):
    """The Linked of a Reading, or None if what was read does not fit together."""
    body_parts = tuple([names for _, names, _ in reading.bodies])
    address_parts = tuple([names for _, names in reading.addresses])
    if not are_parts(body_parts) or not are_parts(address_parts):
        return None
    if not homes_right(reading.addresses, body_parts):
        return None
    bodies = [part[0] for part in body_parts]
    forms = named_forms(reading.bodies, bodies, [part[0] for part in address_parts])
    if forms is None or reading.entry >= len(bodies) or forms[bodies[reading.entry]][0] != "func":
        return None
    return Linked(bodies[reading.entry], address_parts, body_parts, forms)


def load(text):
    """The Linked with this text. Raises BadText."""
    linked = linked_of(read_rows(text))
    if linked is None or str(linked) != text:
        raise BadText(None)
    return linked
