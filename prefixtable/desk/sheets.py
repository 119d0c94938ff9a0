"""Sheets: the definitions of a desk at one time, and what the edits of a group make of them."""

from prefixtable.desk.formulas import formula_text, is_name, names_of, parse_formula, renamed, value_in
from prefixtable.errors import InvalidEdit, InvalidTable, UnknownName
from prefixtable.recodings.reduced import recoded
from prefixtable.tables.table import Table, require_rows

SIZES = {"give": 3, "define": 3, "drop": 2, "rename": 3, "recode": 2}


class Sheet:
    """The tables and formulas that are given under names, and the table of each name; it never changes.

    The meanings are the definitions as they are told: least rows, or texts.
    """

    def __init__(self, given, formulas, tables):
        self.given = given
        self.formulas = formulas
        self.tables = {name: tables[name] for name in sorted(tables)}
        self.meanings = {name: given[name].rows if name in given else formula_text(formulas[name])
                         for name in self.tables}


def require_sizes(tables, limit):
    """Raise TooMany if a table of a dict has more least rows than this."""
    for name in tables:
        require_rows(limit, tables[name])


def sheet_behind(sheet, base, roots, limit, edits):
    """Return the sheet that edits make of a sheet of a base and so many roots."""
    draft = Draft(sheet, base, roots, limit)
    for edit in edits:
        draft.make(edit)
    return draft.finished()


class Draft:
    """A sheet on the way through the edits of a group."""

    def __init__(self, sheet, base, roots, limit):
        self.width = base
        self.roots = roots
        self.limit = limit
        self.given = {name: sheet.given[name] for name in sheet.given}
        self.formulas = {name: sheet.formulas[name] for name in sheet.formulas}

    def has(self, value):
        """Return whether the value is a name with a definition."""
        return isinstance(value, str) and (value in self.given or value in self.formulas)

    def make(self, edit):
        """Make an edit."""
        if not has_edit_form(edit):
            raise InvalidEdit("not an edit")
        kind = edit[0]
        if kind == "give":
            self.give(edit[1], edit[2])
        elif kind == "define":
            self.define(edit[1], edit[2])
        elif kind == "drop":
            self.drop(edit[1])
        elif kind == "rename":
            self.rename(edit[1], edit[2])
        else:
            self.recode(edit[1])

    def give(self, name, rows):
        """Put the table with such rows under a name."""
        require_name(name)
        table = self.table_of(rows)
        self.formulas.pop(name, None)
        self.given[name] = table

    def define(self, name, written):
        """Put the formula with a text under a name."""
        require_name(name)
        formula = parse_formula(written)
        self.given.pop(name, None)
        self.formulas[name] = formula

    def drop(self, name):
        """Take away a name."""
        self.require_known(name)
        self.given.pop(name, None)
        self.formulas.pop(name, None)

    def rename(self, old, new):
        """Give what is under a name another name, in the formulas too."""
        require_name(new)
        if self.has(new):
            raise InvalidEdit("the new name has a definition")
        self.require_known(old)
        if old in self.given:
            self.given[new] = self.given.pop(old)
        else:
            self.formulas[new] = self.formulas.pop(old)
        self.formulas = {name: renamed(self.formulas[name], old, new) for name in self.formulas}

    def recode(self, rows):
        """Recode each given table by the table with such rows."""
        change = self.table_of(rows)
        self.given = {name: recoded(self.given[name], change) for name in self.given}
        require_sizes(self.given, self.limit)

    def require_known(self, name):
        """Raise UnknownName if this is not a name with a definition."""
        if not self.has(name):
            raise UnknownName(name)

    def table_of(self, rows):
        """Return the table with such rows, if it may stand at the desk."""
        if not isinstance(rows, tuple) or len(rows) > Table.MAX_ROWS:
            raise InvalidTable("not a tuple of at most so many rows")
        table = Table.of(self.width, rows)
        if (table.left_roots, table.right_roots) != (self.roots, self.roots):
            raise InvalidTable("not a square table with the roots of the desk")
        require_rows(self.limit, table)
        return table

    def finished(self):
        """Return the sheet with these definitions."""
        names = self.names_in_turn()
        tables = {name: self.given[name] for name in self.given}
        unchanging = Table.identity(self.width, roots=self.roots)
        for name in names:
            tables[name] = value_in(self.formulas[name], tables, unchanging)
        require_sizes(tables, self.limit)
        return Sheet(self.given, self.formulas, tables)

    def names_in_turn(self):
        """Return the names of the formulas so that each one needs given tables and earlier ones only."""
        needs = {name: names_of(self.formulas[name]) for name in sorted(self.formulas)}
        for name in sorted(set([name for row in needs.values() for name in row])):
            self.require_known(name)
        found = []
        done = {name: True for name in self.given}
        while len(found) < len(needs):
            ready = [name for name in needs if name not in done and all([other in done for other in needs[name]])]
            if not ready:
                raise InvalidEdit("a definition needs itself")
            for name in ready:
                done[name] = True
            found.extend(ready)
        return found


def require_name(name):
    """Raise InvalidEdit if this is not a name."""
    if not is_name(name):
        raise InvalidEdit("not a name")


def has_edit_form(value):
    """Return whether the value is a tuple of a word and as many further elements as it needs."""
    if not isinstance(value, tuple) or len(value) == 0 or not isinstance(value[0], str):
        return False
    return value[0] in SIZES and len(value) == SIZES[value[0]]
