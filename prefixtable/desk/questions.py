"""Questions about named tables, and their answers."""

from prefixtable.base.streams import has_stream_form
from prefixtable.desk.formulas import is_name
from prefixtable.graphs.circles import order
from prefixtable.graphs.matching import are_alike
from prefixtable.powers.powers import commute

UNDEFINED = "undefined"


def is_question(base, roots, value):
    """Return whether the value is a question about tables of a base and so many roots."""
    if not isinstance(value, tuple) or len(value) not in (2, 3) or not isinstance(value[0], str):
        return False
    if not is_name(value[1]):
        return False
    if len(value) == 2:
        return value[0] == "order"
    if value[0] == "image":
        return has_stream_form(base, roots, value[2])
    return value[0] in ("equal", "alike", "commute") and is_name(value[2])


def names_asked(question):
    """Return the names in a question, in their order."""
    return question[1:2] if question[0] in ("order", "image") else question[1:]


def answer_to(question, tables):
    """Return the answer to a question for a dict from names to drawn tables."""
    for name in names_asked(question):
        if name not in tables:
            return UNDEFINED
    kind = question[0]
    table = tables[question[1]]
    if kind == "order":
        return order(table)
    if kind == "image":
        return table(question[2])
    other = tables[question[2]]
    if kind == "equal":
        return table == other
    return are_alike(table, other) if kind == "alike" else commute(table, other)


def answers_to(questions, tables):
    """Return a dict from the names of questions, ascending, to their answers."""
    return {name: answer_to(questions[name], tables) for name in sorted(questions)}


def changes_between(old, new):
    """Return the triples (name, old answer, new answer) of the answers to the same questions that differ, ascending."""
    return tuple([(name, old[name], new[name]) for name in sorted(old) if old[name] != new[name]])
