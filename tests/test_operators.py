"""The rule that operators, and properties that are read, change nothing and call nothing that they are passed or hold.

What a call off an object does is not seen in its class: it is held against each method of that name in the package.
"""

import ast
import unittest

from test_language import METHODS, called, trees

BOTH = "add sub mul floordiv mod and or xor lshift rshift".split()
OPERATORS = {f"__{word}__" for word in BOTH + [f"r{word}" for word in BOTH] + [
    "pow", "lt", "le", "gt", "ge", "ne", "eq", "neg", "pos", "invert", "abs", "bool", "contains", "getitem", "repr",
    "str", "len"]}
MODIFIERS = set("append clear extend insert pop remove reverse setdefault update add discard sort".split())
PUSHERS = {"heappush", "heappop", "heapify"}
CREATORS = (ast.List, ast.Dict, ast.ListComp, ast.DictComp, ast.SetComp)
TABLE = """
class Table:
    def __init__(self, rows):
        self.rows = rows
    def __pow__(self, other):
        return self.power(other)
    def __invert__(self):
        made = Table([])
        made.rows = sorted(self.rows)
        return told(made)
    def power(self, n):
        return [n]

def told(rows):
    found = []
    found.append(rows)
    return found
"""
READER = """
class Reader:
    def power(self, room):
        return self.skips(room)
    def skips(self, word):
        CHANGE
        return True
"""
CHANGES = ("self.place += 1", "self.place = word", "del self.place", "self.marks[0] = word", "self.marks.append(word)",
           "word.pop()", "heappush(word, 1)", "word += word", "word(1)", "self(word)", "self.call(1)", "word[0](1)",
           "word = []; word.append(1)", "found = []; found = word; found.append(1)")


class OperatorsTest(unittest.TestCase):

    def test_operators_and_properties_change_nothing(self):
        places = places_of([tree for _, tree in trees()])
        reached = reached_by_operators(places)
        names = [node.name for _, node in reached]
        for name in ("__pow__", "__getitem__", "base", "power", "takes", "identity", "product_rows", "covers"):
            self.assertIn(name, names)
        for owner, node in reached:
            self.assertEqual(faults_of(places, node), [], (owner, node.name))

    def test_changing_methods_of_the_same_name_are_found(self):
        for change in CHANGES:
            text = TABLE + READER.replace("CHANGE", change)
            self.assertEqual(faulty_names(text), ["skips"], change)
            self.assertEqual(faulty_names(text.replace("def power(self, room)", "def factor(self, room)")), [], change)


def faulty_names(text):
    """Return the names of what operators and properties of a text reach and what breaks the rule."""
    places = places_of([ast.parse(text)])
    return [node.name for _, node in reached_by_operators(places) if faults_of(places, node)]


def places_of(modules):
    """Return (class, definition) for all functions and methods; the class of a function is None."""
    rows = [row for module in modules for row in module.body]
    found = [(None, row) for row in rows if isinstance(row, ast.FunctionDef)]
    return found + [(top.name, row) for top in rows if isinstance(top, ast.ClassDef)
                    for row in top.body if isinstance(row, ast.FunctionDef)]


def reached_by_operators(places):
    """Return the places of the operators, of the properties that are read, and of all that they may call."""
    waiting = [place for place in places if place[1].name in OPERATORS
               or any(ast.unparse(mark) == "property" for mark in place[1].decorator_list)]
    found = []
    while waiting:
        place = waiting.pop()
        if place not in found:
            found.append(place)
            calls = [part for part in ast.walk(place[1]) if isinstance(part, ast.Call)]
            waiting += [other for other in places for call in calls if may_call(call, place[0], other)]
    return found


def may_call(call, owner, place):
    """Return whether a call in a class, or in none, may be one of the function or method at a place."""
    other, node = place
    if isinstance(call.func, ast.Attribute):
        return other is not None and node.name == called(call) and node.name != "__init__"
    if other is None:
        return node.name == called(call)
    return node.name == "__init__" and other == (owner if called(call) == "cls" else called(call))


def faults_of(places, node):
    """Return the lines in which a function changes what it did not create, or calls what it is passed or holds."""
    methods = METHODS | MODIFIERS | {row.name for owner, row in places if owner}
    held = (passed_to(node) | {part.id for part in ast.walk(node) if is_store(part)}) - {"cls"}
    found = []
    for part in ast.walk(node):
        if not all(is_created(places, node, changed) for changed in changed_by(part)):
            found.append(part.lineno)
        if isinstance(part, ast.Call):
            plain = isinstance(part.func, ast.Name) and part.func.id not in held
            if not plain and not (isinstance(part.func, ast.Attribute) and part.func.attr in methods):
                found.append(part.lineno)
    return found


def changed_by(part):
    """Return the values that a part of a function changes."""
    if isinstance(part, (ast.Attribute, ast.Subscript)) and not isinstance(part.ctx, ast.Load):
        return [part.value]
    if isinstance(part, ast.AugAssign) and isinstance(part.target, ast.Name):
        # A number is put in the place of another one, which stays as it is.
        return [] if isinstance(part.value, ast.Constant) and isinstance(part.value.value, int) else [part.target]
    if isinstance(part, ast.Call) and isinstance(part.func, ast.Attribute):
        return [part.func.value] if part.func.attr in MODIFIERS else []
    return part.args[:1] if called(part) in PUSHERS else []


def is_created(places, node, value):
    """Return whether a value is surely new: a local name that is only ever assigned what the function creates."""
    if not isinstance(value, ast.Name):
        return False
    if node.name == "__init__" and value.id == node.args.args[0].arg:
        return True
    makers = {owner for owner, _ in places if owner} | {"list", "dict", "set", "sorted"}
    rows = [row for row in ast.walk(node) if isinstance(row, ast.Assign) and is_assigned_by(row, value.id)]
    stores = [part for part in ast.walk(node) if is_store(part) and part.id == value.id]
    return value.id not in passed_to(node) and len(stores) == len(rows) > 0 and all(
        isinstance(row.value, CREATORS) or isinstance(row.value, ast.Call) and isinstance(row.value.func, ast.Name)
        and row.value.func.id in makers for row in rows)


def is_assigned_by(row, name):
    """Return whether an assignment has just this name as its one target."""
    return len(row.targets) == 1 and isinstance(row.targets[0], ast.Name) and row.targets[0].id == name


def is_store(part):
    """Return whether a part of a function is a name that is assigned."""
    return isinstance(part, ast.Name) and isinstance(part.ctx, ast.Store)


def passed_to(node):
    """Return the names of the parameters of a function."""
    return {part.arg for part in ast.walk(node) if isinstance(part, ast.arg)}


if __name__ == "__main__":
    unittest.main()
