"""Products of named tables and of their inverses that are told by texts."""

from prefixtable.base.integers import require_number
from prefixtable.base.names import has_name_form
from prefixtable.errors import InvalidOperation, TooMany, UnknownName
from prefixtable.orders.orders import MAX_SMALL
from prefixtable.tables.table import Table, require_rows, require_square, require_table

MAX_NAMES = 3
MAX_LETTERS = 60
MAX_TEXTS = 5000


def require_named(tables):
    """Raise the errors of named tables, but for the one of tables that are not small."""
    if not isinstance(tables, dict) or not 1 <= len(tables) <= MAX_NAMES:
        raise InvalidOperation("not a dict of one to three tables")
    if not all([has_name_form(name) for name in tables]):
        raise InvalidOperation("a key is no name")
    names = sorted(tables)
    for name in names:
        require_square(tables[name])
        if spaces_of(tables[name]) != spaces_of(tables[names[0]]):
            raise InvalidOperation("a table has another base or other roots than the first one")


def spaces_of(table):
    """Return the base and the numbers of roots of a table."""
    return table.base, table.left_roots, table.right_roots


def require_all_small(tables):
    """Raise TooMany if a table is not small."""
    for name in tables:
        require_rows(MAX_SMALL, tables[name])


def require_few_texts(tables, length):
    """Raise TooMany if there are too many reduced texts with so many letters."""
    letters = 2 * len(tables)
    count = letters if length > 0 else 1
    for _ in range(length - 1):
        count = count * (letters - 1)
    if count > MAX_TEXTS:
        raise TooMany(MAX_TEXTS)


def require_texts(tables, length):
    """Raise the errors of all reduced texts with so many letters."""
    require_named(tables)
    require_number(0, MAX_LETTERS, length)
    require_all_small(tables)
    require_few_texts(tables, length)


def name_in(letter):
    """Return the name of a letter."""
    return letter.removeprefix("~")


def opposite(letter):
    """Return the letter of the inverse."""
    return name_in(letter) if letter.startswith("~") else f"~{letter}"


def letters_of(value):
    """Return the list of the letters of a product text, or None if the value is none."""
    if not isinstance(value, str):
        return None
    letters = value.split(" ") if value != "" else []
    if len(letters) > MAX_LETTERS or not all([has_name_form(name_in(letter)) for letter in letters]):
        return None
    return letters


def meanings_of(tables):
    """Return a dict from all letters of named tables, ascending, to what they stand for."""
    meanings = {name: tables[name] for name in sorted(tables)}
    for name in sorted(tables):
        meanings[opposite(name)] = ~tables[name]
    return meanings


def unchanging(tables):
    """Return the table that changes nothing, with the base and the roots of named tables."""
    base, roots, _ = spaces_of(tables[min(tables)])
    return Table.identity(base, roots=roots)


def word_value(text, tables):
    """Return the value of a product text."""
    letters = letters_of(text)
    if letters is None:
        raise InvalidOperation("not a product text")
    require_named(tables)
    for letter in letters:
        if name_in(letter) not in tables:
            raise UnknownName(name_in(letter))
    require_all_small(tables)
    meanings = meanings_of(tables)
    found = unchanging(tables)
    for letter in letters:
        found = found * meanings[letter]
    return found


def value_of(text, **tables):
    """Return the value of a product text for tables under their names."""
    return word_value(text, tables)


def followed(level, meanings):
    """Return pairs (letters, value) with one letter more, ascending, such that no name stands beside its inverse."""
    return [(letters + (letter,), value * meanings[letter]) for letters, value in level for letter in meanings
            if len(letters) == 0 or letters[-1] != opposite(letter)]


def reduced_texts(tables, length):
    """Yield all reduced texts with so many letters, ascending."""
    require_texts(tables, length)
    names = sorted(tables)
    letters = names + [opposite(name) for name in names]
    rows = [()]
    for _ in range(length):
        rows = [row + (letter,) for row in rows for letter in letters if row[-1:] != (opposite(letter),)]
    for row in rows:
        yield " ".join(row)


def relations(tables, length):
    """Yield all relations with so many letters, ascending."""
    require_texts(tables, length)
    meanings = meanings_of(tables)
    level = [((), unchanging(tables))]
    for _ in range(length):
        level = followed(level, meanings)
    for letters, value in level:
        if not value:
            yield " ".join(letters)


def shortest_text(target, tables, most):
    """Return the smallest reduced text with at most so many letters whose value is the target, or None."""
    require_table(target)
    require_named(tables)
    if spaces_of(target) != spaces_of(tables[min(tables)]):
        raise InvalidOperation("the target has not the base and the roots of the tables")
    require_number(0, MAX_LETTERS, most)
    require_all_small(tables)
    require_few_texts(tables, most)
    meanings = meanings_of(tables)
    level = [((), unchanging(tables))]
    for length in range(most + 1):
        for letters, value in level:
            if value == target:
                return " ".join(letters)
        if length < most:
            level = followed(level, meanings)
    return None
