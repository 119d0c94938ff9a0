"""Formulas: products, powers and inverses of named tables, as tuples and as texts."""

from prefixtable.base.integers import is_integer_within
from prefixtable.base.names import LETTERS, has_name_form
from prefixtable.errors import InvalidOperation, InvalidTable, ParseError, UnknownName
from prefixtable.tables.table import Table

MAX_DEPTH = 8
MAX_EXPONENT = 60
MIN_FACTORS = 2
MAX_FACTORS = 12
MAX_FIGURES = 2


def is_name(value):
    """Return whether the value is a name."""
    return has_name_form(value) and value != "id"


def is_formula(value):
    """Return whether the value is a formula."""
    return has_formula_form(value, MAX_DEPTH)


def has_formula_form(value, room):
    """Return whether the value is a formula that is nested at most so deep."""
    if room == 0 or not isinstance(value, tuple) or len(value) == 0 or not isinstance(value[0], str):
        return False
    kind = value[0]
    if kind == "id":
        return len(value) == 1
    if kind == "name":
        return len(value) == 2 and is_name(value[1])
    if kind == "inverse":
        return len(value) == 2 and has_formula_form(value[1], room - 1)
    if kind == "power":
        return (len(value) == 3 and is_integer_within(-MAX_EXPONENT, MAX_EXPONENT, value[2])
                and has_formula_form(value[1], room - 1))
    if kind != "product" or not MIN_FACTORS <= len(value) - 1 <= MAX_FACTORS:
        return False
    return all([not is_product(part) and has_formula_form(part, room - 1) for part in value[1:]])


def is_product(value):
    """Return whether the value has the word of a product."""
    return isinstance(value, tuple) and value[:1] == ("product",)


def require_formula(formula):
    """Raise InvalidOperation if this is not a formula."""
    if not is_formula(formula):
        raise InvalidOperation("not a formula")


def format_formula(formula):
    """Return the text of a formula."""
    require_formula(formula)
    return formula_text(formula)


def formula_text(formula):
    """Return the text of what is known to be a formula."""
    kind = formula[0]
    if kind == "id":
        return "id"
    if kind == "name":
        return formula[1]
    if kind == "inverse":
        return f"~{inner_text(formula[1])}"
    if kind == "power":
        return f"{inner_text(formula[1])} ** {formula[2]}"
    return " * ".join([formula_text(part) for part in formula[1:]])


def inner_text(formula):
    """Return the text of a formula behind the sign of an inverse or in front of the one of a power."""
    written = formula_text(formula)
    return f"({written})" if formula[0] in ("power", "product") else written


def parse_formula(text):
    """Return the formula with a text."""
    if not isinstance(text, str):
        raise ParseError("not a string")
    reader = Reader(text)
    found = reader.product(MAX_DEPTH)
    # The reader takes some more texts, but each formula has one text only.
    if not reader.is_done() or not is_formula(found) or formula_text(found) != text:
        raise ParseError("not the text of a formula")
    return found


class Reader:
    """Reads a formula from a row of signs, from left to right."""

    def __init__(self, signs):
        self.signs = signs
        self.place = 0

    def is_done(self):
        """Return whether all signs are read."""
        return self.place == len(self.signs)

    def skips(self, word):
        """Return whether a word comes next; then it is read."""
        if not self.signs.startswith(word, self.place):
            return False
        self.place += len(word)
        return True

    def word_of(self, letters):
        """Read and return as many of such letters as there are."""
        start = self.place
        while not self.is_done() and self.signs[self.place] in letters:
            self.place += 1
        return self.signs[start:self.place]

    def product(self, room):
        """Read a formula in which signs of inverses and parentheses are nested less than so deep."""
        parts = [self.factor(room)]
        while self.skips(" * "):
            parts.append(self.factor(room))
        return parts[0] if len(parts) == 1 else ("product", *parts)

    def factor(self, room):
        """Read a formula that is no product."""
        found = self.single(room)
        if not self.skips(" ** "):
            return found
        sign = "-" if self.skips("-") else ""
        figures = self.word_of("0123456789")
        if figures == "" or len(figures) > MAX_FIGURES:
            raise ParseError("there is no exponent")
        return "power", found, int(sign + figures)

    def single(self, room):
        """Read a formula that is neither a product nor a power, or stands in parentheses."""
        if room == 0:
            raise ParseError("the formula is nested too deep")
        if self.skips("~"):
            return "inverse", self.single(room - 1)
        if self.skips("("):
            found = self.product(room - 1)
            if not self.skips(")"):
                raise ParseError("a parenthesis is not closed")
            return found
        word = self.word_of(LETTERS)
        return ("id",) if word == "id" else ("name", word)


def names_in(formula):
    """Return the names of a formula, ascending."""
    require_formula(formula)
    return names_of(formula)


def names_of(formula):
    """Return the names of what is known to be a formula, ascending."""
    kind = formula[0]
    if kind == "id":
        return ()
    if kind == "name":
        return (formula[1],)
    parts = formula[1:] if kind == "product" else formula[1:2]
    return tuple(sorted(set([name for part in parts for name in names_of(part)])))


def renamed(formula, old, new):
    """Return a formula with another name in the place of one."""
    kind = formula[0]
    if kind == "id":
        return formula
    if kind == "name":
        return ("name", new) if formula[1] == old else formula
    if kind == "power":
        return "power", renamed(formula[1], old, new), formula[2]
    return (kind, *[renamed(part, old, new) for part in formula[1:]])


def formula_value(formula, tables):
    """Return the value of a formula for a dict from names to square tables of one base and one number of roots."""
    require_formula(formula)
    if not are_tables(tables):
        raise InvalidTable("not a dict from names to square tables of one base and one number of roots")
    for name in names_of(formula):
        if name not in tables:
            raise UnknownName(name)
    first = tables[min(tables)]
    return value_in(formula, tables, Table.identity(first.base, roots=first.left_roots))


def are_tables(value):
    """Return whether the value is a dict from names to square tables of one base and one number of roots."""
    if not isinstance(value, dict) or len(value) == 0 or not all([is_name(name) for name in value]):
        return False
    tables = list(value.values())
    if not all([isinstance(table, Table) and table.is_square for table in tables]):
        return False
    spaces = [(table.base, table.left_roots) for table in tables]
    return len(set(spaces)) == 1


def value_in(formula, tables, unchanging):
    """Return the value of a formula all of whose names are known; one table is the value of id."""
    kind = formula[0]
    if kind == "id":
        return unchanging
    if kind == "name":
        return tables[formula[1]]
    if kind == "inverse":
        return ~value_in(formula[1], tables, unchanging)
    if kind == "power":
        return value_in(formula[1], tables, unchanging).power(formula[2])
    found = value_in(formula[1], tables, unchanging)
    for part in formula[2:]:
        found = found * value_in(part, tables, unchanging)
    return found
