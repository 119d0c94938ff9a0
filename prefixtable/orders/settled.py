"""The settled code of a table, from which its permuted codes and its growths are read."""

from prefixtable.base.codes import root_code
from prefixtable.base.prefixes import behind, children, one_above
from prefixtable.base.streams import normal_stream


def settled_steps(table):
    """Return what steps_over tells of the settled code of a square table.

    A prefix of a code is split if the table takes it to no part of a prefix of the code, and merged if the inverse
    does so. In the settled code no way of whole steps leads from a merged prefix to a split one. A code whose
    prefixes the table permutes has all prefixes on such a way as inner nodes, so expanding these goes no further
    than it must. Each time there is one node less, of the split prefixes and those below, at which the table splits.
    """
    code = root_code(table.left_roots)
    back = ~table
    while True:
        steps = steps_over(table, code)
        way = way_to_split(steps, steps_over(back, code))
        if not way:
            return steps
        parts = [child for prefix in way for child in children(table.base, prefix)]
        code = tuple(sorted([prefix for prefix in code if prefix not in way] + parts))


def steps_over(table, code):
    """Return a dict from the prefixes of a code to pairs (prefix of the code, word), or to None where they are split.

    The table takes the prefix to that of the pair with the word behind it.
    """
    found = {}
    for prefix in code:
        image = table.takes(prefix)
        goal = None if image is None else one_above(code, image)
        found[prefix] = None if goal is None else (goal, behind(goal, image))
    return found


def way_to_split(steps, back_steps):
    """Return the prefixes on a way of whole steps from a merged prefix to a split one, or an empty list."""
    for prefix in back_steps:
        if back_steps[prefix] is None:
            way = [prefix]
            while is_whole(steps[way[-1]]):
                way.append(steps[way[-1]][0])
            if steps[way[-1]] is None:
                return way
    return []


def is_whole(step):
    """Return whether a step leads to a prefix of the code without more digits."""
    return step is not None and step[1] == ""


def growths_of(table):
    """Return a dict, ascending, from the prefixes of the settled code that come back longer to their growths."""
    steps = settled_steps(table)
    found = {}
    for prefix in steps:
        power, word = way_back(steps, prefix)
        if word != "":
            found[prefix] = (prefix, power, word)
    return found


def way_back(steps, prefix):
    """Return the number of steps and the word with which a prefix comes back, the word "" if it does not."""
    word = ""
    at = prefix
    for power in range(1, len(steps) + 1):
        if steps[at] is None:
            return 0, ""
        at, more = steps[at]
        # What a later step adds stands in front of what was added before.
        word = more + word
        if at == prefix:
            return power, word
    return 0, ""


def limit_stream(prefix, word):
    """Return the stream that is a prefix followed by a word again and again."""
    return normal_stream(prefix[0], prefix[1], word)
