"""Codes: ascending tuples of prefixes of which each stream begins with exactly one."""

from math import comb

from prefixtable.base.integers import require_number
from prefixtable.base.prefixes import children, highest, lowest
from prefixtable.base.streams import is_under, require_stream
from prefixtable.base.words import DIGITS, MAX_ROOTS, has_prefix_form, require_base, require_prefix, require_roots
from prefixtable.errors import InvalidCode, InvalidPrefix, TooMany

MAX_ROWS = 5000
MAX_LISTED_SIZE = 8
MAX_COUNTED_SIZE = 200


def start_behind(base, word):
    """Return the word with which all streams right behind those of a word begin, or None at the end of the root."""
    short = word.rstrip(DIGITS[base - 1])
    if short == "":
        return None
    return short[:-1] + DIGITS[int(short[-1]) + 1]


def covers(base, roots, prefixes):
    """Return whether prefixes, in their order, leave out no stream of the roots and have none twice."""
    root = 0
    start = ""
    for at, word in prefixes:
        # Each prefix must begin just where the one before it ends.
        if at != root or not word.startswith(start) or word[len(start):].strip("0") != "":
            return False
        start = start_behind(base, word)
        if start is None:
            root += 1
            start = ""
    return root == roots


def is_code(base, roots, value):
    """Return whether the value is a code for so many roots."""
    require_base(base)
    require_roots(roots)
    return has_code_form(base, roots, value)


def has_code_form(base, roots, value):
    """Return the same as is_code for a base and roots that are known to be right."""
    if not isinstance(value, tuple) or len(value) > MAX_ROWS:
        return False
    return all([has_prefix_form(base, roots, prefix) for prefix in value]) and covers(base, roots, value)


def require_code(base, code):
    """Raise InvalidCode if this is not a code of the base for any number of roots."""
    if not isinstance(code, tuple) or len(code) == 0 or not has_prefix_form(base, MAX_ROOTS, code[-1]):
        raise InvalidCode("not a code of this base")
    if not has_code_form(base, code_roots(code), code):
        raise InvalidCode("not a code of this base")


def require_codes(base, codes):
    """Raise InvalidCode if this is not a tuple of at least one code, all with equally many roots."""
    if not isinstance(codes, tuple) or len(codes) == 0:
        raise InvalidCode("there is no code")
    for code in codes:
        require_code(base, code)
        if code_roots(code) != code_roots(codes[0]):
            raise InvalidCode("the codes have not equally many roots")


def require_prefixes(base, roots, prefixes):
    """Raise InvalidPrefix if this is not a tuple of prefixes of the base and the roots."""
    if not isinstance(prefixes, tuple):
        raise InvalidPrefix("not a tuple of prefixes")
    for prefix in prefixes:
        require_prefix(base, roots, prefix)


def code_roots(code):
    """Return the number of roots of a code."""
    return code[-1][0] + 1


def root_code(roots):
    """Return the code of the prefixes without digits."""
    require_roots(roots)
    return tuple([(root, "") for root in range(roots)])


def make_code(base, roots, *prefixes):
    """Return the code of these prefixes, which are given in any order."""
    return code_from(base, roots, prefixes)


def code_from(base, roots, prefixes):
    """Return the code of the prefixes of a tuple in any order."""
    require_base(base)
    require_roots(roots)
    require_prefixes(base, roots, prefixes)
    code = tuple(sorted(prefixes))
    if not has_code_form(base, roots, code):
        raise InvalidCode("these prefixes are not a code for the roots")
    return code


def code_through(base, roots, *prefixes):
    """Return the code with the fewest prefixes in which all given prefixes are nodes."""
    return code_through_all(base, roots, prefixes)


def code_through_all(base, roots, prefixes):
    """Return the same as code_through for a tuple of prefixes."""
    require_base(base)
    require_roots(roots)
    require_prefixes(base, roots, prefixes)
    inner = nodes_above(base, roots, prefixes)
    nodes = list(root_code(roots)) + [child for node in inner for child in children(base, node)]
    return tuple(sorted([node for node in nodes if node not in inner]))


def nodes_above(base, roots, prefixes):
    """Return a dict whose keys are the other prefixes above the given ones, as many as a code can have."""
    most = (MAX_ROWS - roots) // (base - 1)
    inner = {}
    for root, word in prefixes:
        size = len(word)
        # A long word is refused at once: its beginnings alone would fill the memory.
        if size > most:
            raise TooMany(MAX_ROWS)
        while size > 0 and (root, word[:size - 1]) not in inner:
            size -= 1
            inner[root, word[:size]] = True
        if len(inner) > most:
            raise TooMany(MAX_ROWS)
    return inner


def inner_nodes(base, code):
    """Return the inner nodes, ascending."""
    require_base(base)
    require_code(base, code)
    return nodes_inside(code)


def nodes_inside(code):
    """Return the inner nodes of what is known to be a code, ascending."""
    # From an inner node only zeros lead to the first prefix below it, so each node is found once.
    return tuple([(root, word[:size]) for root, word in code for size in range(len(word.rstrip("0")), len(word))])


def expanded(base, code, prefix):
    """Return the code in which the prefix is replaced by those that follow it by one digit."""
    require_base(base)
    require_code(base, code)
    if not has_prefix_form(base, MAX_ROOTS, prefix) or prefix not in code:
        raise InvalidPrefix("not a prefix of the code")
    if len(code) + base - 1 > MAX_ROWS:
        raise TooMany(MAX_ROWS)
    return with_expansion(base, code, prefix)


def with_expansion(base, code, prefix):
    """Return a code in which one of its prefixes is expanded."""
    at = code.index(prefix)
    return code[:at] + tuple(children(base, prefix)) + code[at + 1:]


def contracted(base, code, prefix):
    """Return the code in which the prefixes that follow the prefix by one digit are contracted to it."""
    require_base(base)
    require_code(base, code)
    if not has_prefix_form(base, MAX_ROOTS, prefix):
        raise InvalidPrefix("not a prefix of the base")
    parts = tuple(children(base, prefix))
    if not all([part in code for part in parts]):
        raise InvalidPrefix("not all prefixes that follow by one digit are in the code")
    at = code.index(parts[0])
    return code[:at] + (prefix,) + code[at + base:]


def joined(base, *codes):
    """Return the join of codes, the coarsest code that refines all of them."""
    return joined_all(base, codes)


def joined_all(base, codes):
    """Return the join of a tuple of codes."""
    require_base(base)
    require_codes(base, codes)
    join = lowest([prefix for code in codes for prefix in code])
    if len(join) > MAX_ROWS:
        raise TooMany(MAX_ROWS)
    return join


def met(base, *codes):
    """Return the meet of codes, the finest code that all of them refine."""
    return met_all(base, codes)


def met_all(base, codes):
    """Return the meet of a tuple of codes."""
    require_base(base)
    require_codes(base, codes)
    return highest([prefix for code in codes for prefix in code])


def refines(base, first, second):
    """Return whether the first code refines the second one."""
    require_base(base)
    require_codes(base, (first, second))
    return is_finer(first, second)


def is_finer(first, second):
    """Return the same as refines for codes that are known to be right, with equally many roots."""
    return lowest(first + second) == first


def prefix_in(base, code, stream):
    """Return the prefix of the code with which the stream begins."""
    require_base(base)
    require_code(base, code)
    require_stream(base, code_roots(code), stream)
    return [prefix for prefix in code if is_under(stream, prefix)][0]


def codes_of_size(base, roots, size):
    """Yield all codes with so many prefixes, ascending."""
    require_base(base)
    require_roots(roots)
    require_number(1, MAX_LISTED_SIZE, size)
    for code in all_codes(base, roots, size):
        yield code


def all_codes(base, roots, size):
    """Return the list of all codes with so many prefixes, ascending."""
    found = [root_code(roots)]
    while len(found[0]) < size:
        found = sorted(set([with_expansion(base, code, prefix) for code in found for prefix in code]))
    return found if len(found[0]) == size else []


def count_codes(base, roots, size):
    """Return how many codes with so many prefixes there are."""
    require_base(base)
    require_roots(roots)
    require_number(1, MAX_COUNTED_SIZE, size)
    inner = (size - roots) // (base - 1)
    if inner < 0 or roots + inner * (base - 1) != size:
        return 0
    size_with_inner = base * inner + roots
    return roots * comb(size_with_inner, inner) // size_with_inner
