"""Archives: members that join modules because these have names that nobody exports."""

from foldsame.errors import BadName, Clash
from foldsame.programs import name_place, parse_modules
from foldsame.texts import is_name


def row_names(row):
    """The NAMEs in a row of a piece."""
    if isinstance(row, tuple):
        place = name_place(row)
        return [] if place is None else [row[place]]
    return [row] if isinstance(row, str) else []


def outer_names(module):
    """The NAMEs that a parsed module has and that are no piece or alias of it."""
    names = [name for piece in module for row in piece.rows for name in row_names(row)]
    names.extend([other for _, other in module.aliases])
    return [name for name in names if name not in module]


class Gathering:
    """Modules, while members of archives join them; all of them are parsed."""

    def __init__(self, modules, archives, entry):
        self.parsed = dict(modules)
        self.archives = archives
        self.entry = entry
        self.joined = []

    def open_names(self):
        """The names that nobody exports, ascending."""
        exported = {name: True for module in self.parsed.values() for name in module.exports}
        wanted = [name for module in self.parsed.values() for name in outer_names(module)]
        return sorted(set([name for name in [self.entry, *wanted] if name not in exported]))

    def exporter(self, name):
        """The number of the first archive with a member that exports a name, and the least such member, or None."""
        for number, archive in enumerate(self.archives):
            members = [member for member in archive if name in archive[member].exports]
            if members:
                return (number, min(members))
        return None

    def next_one(self):
        """The least open name that some member exports, with the archive and the member, or None."""
        for name in self.open_names():
            found = self.exporter(name)
            if found is not None:
                return (name, *found)
        return None

    def take_in(self, found):
        """Lets a member join. Raises Clash."""
        _, number, member = found
        if member in self.parsed:
            raise Clash(member)
        self.parsed[member] = self.archives[number][member]
        self.joined.append(found)


def gather(modules, archives, entry="main"):
    """The modules with all members that join, and why each does. Raises BadName, BadModule, Clash."""
    parsed = parse_modules(modules)
    libraries = [parse_modules(archive) for archive in archives]
    if not is_name(entry):
        raise BadName(entry)
    gathering = Gathering(parsed, libraries, entry)
    found = gathering.next_one()
    while found is not None:
        gathering.take_in(found)
        found = gathering.next_one()
    texts = dict(modules)
    for _, number, member in gathering.joined:
        texts[member] = archives[number][member]
    return (texts, tuple(gathering.joined))
