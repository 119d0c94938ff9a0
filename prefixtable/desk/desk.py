"""A desk: named tables, formulas and questions, whose answers are kept up to date while the tables are edited."""

from prefixtable.base.integers import is_integer, require_number
from prefixtable.base.words import require_base, require_roots
from prefixtable.desk.formulas import is_name, names_of, parse_formula, value_in
from prefixtable.desk.questions import answer_to, answers_to, changes_between, is_question, names_asked
from prefixtable.desk.sheets import Sheet, require_sizes, sheet_behind
from prefixtable.errors import (
    InvalidEdit, InvalidNumber, InvalidOperation, InvalidTable, NothingToUndo, UnknownName)
from prefixtable.tables.table import Table


class Scene:
    """All that a desk holds at one time; it never changes, so that an earlier one can be put back.

    Of the groups, only so many as the place are in effect; the others can be made again. There is one sheet more
    than groups: the one in front of all of them.
    """

    def __init__(self, groups, sheets, place, limit):
        self.groups = groups
        self.sheets = sheets
        self.place = place
        self.limit = limit
        self.logged = groups[:place]
        self.sheet = sheets[place]
        self.asked = {}
        self.told = {}
        self.changed = ()

    def with_questions(self, asked, told, changed):
        """Return the scene with other questions, their answers, and what was changed by the last group."""
        scene = Scene(self.groups, self.sheets, self.place, self.limit)
        scene.asked = asked
        scene.told = told
        scene.changed = changed
        return scene


class Trial:
    """What is done to a desk inside of a with statement is taken back at its end."""

    def __init__(self, desk):
        self._desk = desk
        self._held = None

    def __enter__(self):
        self._held = self._desk._scene
        return self._desk

    def __exit__(self, kind, value, trace):
        desk = self._desk
        desk._scene = self._held


class Desk:
    """Square tables of one base and one number of roots under names, with formulas, questions and all edits."""

    LARGEST = 60

    def __init__(self, base, *, roots=1, row_limit=60):
        require_base(base)
        require_roots(roots)
        require_number(1, Desk.LARGEST, row_limit)
        self._base = base
        self._roots = roots
        self._scene = Scene((), (Sheet({}, {}, {}),), 0, row_limit)

    @classmethod
    def of(cls, base, tables, *, roots=1):
        """Return a desk on which the tables of a dict from names are given, in one group."""
        desk = cls(base, roots=roots)
        if not isinstance(tables, dict) or not all([isinstance(table, Table) for table in tables.values()]):
            raise InvalidTable("not a dict of tables")
        desk.apply_all(tuple([("give", name, tables[name].rows) for name in tables]))
        return desk

    def __getitem__(self, at):
        if at not in self:
            raise UnknownName(at)
        return self._scene.sheet.tables[at]

    def __iter__(self):
        raise TypeError("a desk is not iterated over: its names are")

    def __contains__(self, value):
        return isinstance(value, str) and value in self._scene.sheet.tables

    def __len__(self):
        return len(self._scene.sheet.tables)

    def __eq__(self, other):
        return (isinstance(other, Desk) and self._base == other._base and self._roots == other._roots
                and self._scene.limit == other._scene.limit and self._scene.logged == other._scene.logged
                and self._scene.sheet.meanings == other._scene.sheet.meanings)

    def __str__(self):
        return f"desk of base {self._base}: {len(self)} names, {self._scene.place} groups"

    @property
    def names(self):
        """The names, ascending."""
        return tuple(self._scene.sheet.tables)

    @property
    def definitions(self):
        """A dict from the names to least rows or texts of formulas."""
        meanings = self._scene.sheet.meanings
        return {name: meanings[name] for name in meanings}

    @property
    def answers(self):
        """A dict from the names of the questions to their answers."""
        told = self._scene.told
        return {name: told[name] for name in told}

    @property
    def row_limit(self):
        """The greatest number of least rows of a table."""
        return self._scene.limit

    @row_limit.setter
    def row_limit(self, value):
        self.set_row_limit(value)

    def set_row_limit(self, row_limit):
        """Assign the greatest number of least rows of a table."""
        require_number(1, Desk.LARGEST, row_limit)
        scene = self._scene
        require_sizes(scene.sheet.tables, row_limit)
        changed = Scene(scene.groups, scene.sheets, scene.place, row_limit)
        self._scene = changed.with_questions(scene.asked, scene.told, scene.changed)

    def evaluated(self, text):
        """Return the value of the formula with a text over the names."""
        formula = parse_formula(text)
        tables = self._scene.sheet.tables
        for name in names_of(formula):
            if name not in tables:
                raise UnknownName(name)
        return value_in(formula, tables, Table.identity(self._base, roots=self._roots))

    def watch(self, name, question):
        """Add or replace a question under a name."""
        if not is_name(name) or not is_question(self._base, self._roots, question):
            raise InvalidOperation("not a name and a question")
        for asked in names_asked(question):
            if asked not in self:
                raise UnknownName(asked)
        self._ask(name, {name: question})

    def unwatch(self, name):
        """Remove the question under a name."""
        if not is_name(name):
            raise InvalidOperation("not a name")
        if name not in self._scene.asked:
            raise UnknownName(name)
        self._ask(name, {})

    def _ask(self, name, questions):
        """Put a dict of at most one question in the place of the question under a name."""
        scene = self._scene
        asked = {other: scene.asked[other] for other in scene.asked if other != name}
        told = {other: scene.told[other] for other in asked}
        for other in questions:
            asked[other] = questions[other]
            told[other] = answer_to(questions[other], scene.sheet.tables)
        changed = tuple([row for row in scene.changed if row[0] != name])
        self._scene = scene.with_questions(asked, {other: told[other] for other in sorted(told)}, changed)

    def news(self):
        """Yield (name, old answer, new answer) for the questions whose answers the last change of groups changed."""
        for row in self._scene.changed:
            yield row

    def apply(self, *edits):
        """Make a group of edits, and return the number of groups in effect."""
        return self.apply_all(edits)

    def apply_all(self, edits):
        """Make a group of the edits of a tuple, and return the number of groups in effect."""
        if not isinstance(edits, tuple):
            raise InvalidEdit("not a tuple of edits")
        if len(edits) > 0:
            scene = self._scene
            behind = scene.place + 1
            sheets = scene.sheets[:behind] + (self._sheet_behind(edits),)
            self._go(Scene(scene.groups[:scene.place] + (edits,), sheets, behind, scene.limit), scene.place)
        return self._scene.place

    def _sheet_behind(self, edits):
        """Return the sheet that there would be behind edits."""
        scene = self._scene
        return sheet_behind(scene.sheet, self._base, self._roots, scene.limit, edits)

    def _go(self, scene, before):
        """Go to a scene that has no questions yet, when the last group led there from the sheet at a place."""
        asked = self._scene.asked
        told = answers_to(asked, scene.sheet.tables)
        changed = changes_between(answers_to(asked, scene.sheets[before].tables), told)
        self._scene = scene.with_questions(asked, told, changed)

    def tried(self, *edits):
        """Return the answers that there would be behind a group of edits."""
        return answers_to(self._scene.asked, self._sheet_behind(edits).tables)

    def undo(self, *, count=1):
        """Take back so many groups, and return the number of groups in effect."""
        return self._step(count, -1)

    def redo(self, *, count=1):
        """Make so many groups again, and return the number of groups in effect."""
        return self._step(count, 1)

    def _step(self, count, way):
        """Go so many groups on or back, and return the number of groups in effect."""
        if not is_integer(count) or count < 0:
            raise InvalidNumber(count)
        scene = self._scene
        place = scene.place + way * count
        if not 0 <= place <= len(scene.groups):
            raise NothingToUndo(count)
        if count > 0:
            require_sizes(scene.sheets[place].tables, scene.limit)
            self._go(Scene(scene.groups, scene.sheets, place, scene.limit), place - way)
        return place

    def log(self):
        """Return the groups in effect."""
        return self._scene.logged

    def trial(self):
        """Return what takes back at the end of a with statement all that is done to the desk inside."""
        return Trial(self)

    def during(self, call):
        """Return what a call with the desk returns, and take back all that it does to the desk."""
        kept = self._scene
        try:
            return call(self)
        finally:
            self._scene = kept
