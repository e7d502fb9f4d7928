"""Programs: modules whose names are bound to full names."""

from foldsame.errors import BadModule, BadName, BadText, LimitExceeded, UnknownName
from foldsame.texts import FORMS, KINDS, is_name, parse_module
from foldsame.texts import read_datum, read_instruction, split_rows

MOST_PIECES = 12
MOST_TAKEN = 6


def name_place(row):
    """Where the NAME stands in an instruction, or None if it has none."""
    form = FORMS[row[0]]
    return form.index("name") + 1 if "name" in form else None


def means_right(row, kind, length):
    """Whether an instruction's NAME may mean a piece of this kind and length."""
    if row[0] == "call":
        return kind == "func"
    if row[0] == "read":
        return kind == "data" and row[3] < length
    return True


def taken_names(kind, rows):
    """The names whose addresses a piece with these rows takes, as they come."""
    if kind == "data":
        return [word for word in rows if isinstance(word, str)]
    return [row[2] for row in rows if row[0] == "addr"]


def parse_modules(modules):
    """The Modules of a dict of texts, by name. Raises BadName, then BadModule."""
    for key in modules:
        if not is_name(key):
            raise BadName(key)
    parsed = {}
    for name in sorted(modules):
        try:
            parsed[name] = parse_module(modules[name])
        except BadText as error:
            raise BadModule(name, error.row)
    return parsed


class Scope:
    """What the names of parsed modules mean; the modules are ordered by name."""

    def __init__(self, modules):
        self.parsed = modules
        self.aliases = {}
        self.exporters = {}
        self.pieces = {}
        for module in modules:
            self.enter(module, modules[module])

    def enter(self, name, module):
        """Notes what a module of this name has and exports."""
        for alias, other in module.aliases:
            self.aliases[(name, alias)] = other
        for export in module.exports:
            self.exporters.setdefault(export, []).append(name)
        for piece in module.pieces:
            self.pieces[name + "." + piece.name] = piece

    def home_of(self, module, name):
        """The module whose piece or alias a name means in a module, or None."""
        if name in self.parsed[module]:
            return module
        for other in self.exporters.get(name, []):
            if name in self.parsed[other]:
                return other
        return None

    def meaning(self, module, name):
        """The full name that a name means in a module, or None."""
        seen = {}
        while (module, name) not in seen:
            seen[(module, name)] = True
            home = self.home_of(module, name)
            if home is None:
                return None
            if (home, name) not in self.aliases:
                return home + "." + name
            module, name = home, self.aliases[(home, name)]
        return None

    def full_row(self, module, row):
        """A row of a piece of a module, with the full name for its NAME."""
        if isinstance(row, int):
            return row
        if isinstance(row, str):
            return self.meaning(module, row)
        place = name_place(row)
        if place is None:
            return row
        return (*row[:place], self.meaning(module, row[place]), *row[place + 1:])

    def exports_right(self, module, name):
        """Whether a module may export a name."""
        return name in self.parsed[module] and self.exporters[name][0] == module

    def instruction_right(self, module, row):
        """Whether the NAME of an instruction means what the instruction asks for."""
        place = name_place(row)
        if place is None:
            return True
        full = self.meaning(module, row[place])
        if full is None:
            return False
        piece = self.pieces[full]
        return means_right(row, piece.kind, len(piece))

    def row_right(self, module, words):
        """Whether a row of a module's text breaks no rule of a program."""
        if words[0] == "export":
            return all([self.exports_right(module, name) for name in words[1:]])
        if words[0] == "alias":
            return self.meaning(module, words[2]) is not None
        if words[0] in KINDS or words[0] == "end":
            return True
        if words[0] in FORMS:
            return self.instruction_right(module, read_instruction(words))
        # No word of data is a word that begins another row.
        return self.full_row(module, read_datum(words)) is not None


def check_modules(scope, texts):
    """Raises BadModule for the first row of the modules that breaks a rule."""
    for name in scope.parsed:
        for number, words in enumerate(split_rows(texts[name])):
            if not scope.row_right(name, words):
                raise BadModule(name, number)


def find_entry(scope, entry):
    """The full name of the function that is exported as entry. Raises BadName."""
    if not is_name(entry) or entry not in scope.exporters:
        raise BadName(entry)
    full = scope.meaning(scope.exporters[entry][0], entry)
    if scope.pieces[full].kind != "func":
        raise BadName(entry)
    return full


class Program:
    """Modules that are bound to one another, with an entry."""

    def __init__(self, modules, entry="main"):
        scope = Scope(parse_modules(modules))
        check_modules(scope, modules)
        self._scope = scope
        self.entry = find_entry(scope, entry)
        self.pieces = tuple(sorted(scope.pieces))
        if len(self.pieces) > MOST_PIECES:
            raise LimitExceeded(MOST_PIECES)
        self._kinds = {}
        self._rows = {}
        for module in scope.parsed:
            for piece in scope.parsed[module]:
                full = module + "." + piece.name
                self._kinds[full] = piece.kind
                self._rows[full] = tuple([scope.full_row(module, row) for row in piece.rows])
        names = [name for full in self.pieces for name in taken_names(self._kinds[full], self._rows[full])]
        self.taken = tuple(sorted(set(names)))
        if len(self.taken) > MOST_TAKEN:
            raise LimitExceeded(MOST_TAKEN)

    def kind_of(self, name):
        """The kind of the piece with a full name. Raises UnknownName."""
        if name not in self:
            raise UnknownName(name)
        return self._kinds[name]

    def rows_of(self, name):
        """The rows of the piece with a full name, with full names. Raises UnknownName."""
        if name not in self:
            raise UnknownName(name)
        return self._rows[name]

    def home_of(self, name):
        """The piece to which the address of this name goes: the taken one itself. Raises UnknownName."""
        if not isinstance(name, str) or name not in self.taken:
            raise UnknownName(name)
        return name

    def keeps(self, body, address=None):
        """Whether a body and an address are kept: a program leaves nothing out."""
        return True

    def meaning(self, module, name):
        """The full name that a name means in a module of the program, or None."""
        if not is_name(name) or not isinstance(module, str) or module not in self._scope.parsed:
            return None
        return self._scope.meaning(module, name)

    def bound_row(self, name, row):
        """A row of an instruction, with what its NAME means in the module of a piece, or None if that is not right."""
        module = name.split(".")[0]
        return self._scope.full_row(module, row) if self._scope.instruction_right(module, row) else None

    def __contains__(self, name):
        return isinstance(name, str) and name in self._kinds

    def __len__(self):
        return len(self.pieces)

    def __eq__(self, other):
        return (isinstance(other, Program) and self.entry == other.entry
                and self.pieces == other.pieces and self._kinds == other._kinds
                and self._rows == other._rows)
