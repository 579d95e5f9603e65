"""Other ways to find what the package has to return, written straight from the document.

Nothing here uses the package. The tests compare the package with it on many inputs.
"""

import re

RESERVED = (
    "and checkpoint else end if input mod not or process receive send set take while".split()
)
COMPARISONS = ("=", "!=", "<", "<=", ">", ">=")
SUMS = ("+", "-")
PRODUCTS = ("*", "//", "mod")
LARGEST = 10 ** 30 - 1

# The grammar of [10], its repetitions as left recursion. Words in capitals are kinds of tokens.
RULES = {
    "condition": (("conjunction",), ("condition", "or", "conjunction")),
    "conjunction": (("negation",), ("conjunction", "and", "negation")),
    "negation": (("not", "negation"), ("[", "condition", "]"), ("comparison",)),
    "comparison": tuple(("expression", sign, "expression") for sign in COMPARISONS),
    "expression": (("term",),) + tuple(("expression", sign, "term") for sign in SUMS),
    "term": (("factor",),) + tuple(("term", sign, "factor") for sign in PRODUCTS),
    "factor": (("INTEGER",), ("NAME",), ("-", "factor"), ("(", "expression", ")")),
}


def is_name(word):
    return re.fullmatch("[a-z]{1,8}", word) is not None and word not in RESERVED


def tokens(text):
    """Pairs (kind, position); the kind is None where no token begins."""
    found = []
    for match in re.finditer(r"[a-z]+|[0-9]+|//|!=|<=|>=|[-+*()\[\]=<>]|[^ ]", text):
        word = match.group()
        if word[0] in "abcdefghijklmnopqrstuvwxyz":
            kind = word if word in ("and", "mod", "not", "or") else "NAME" if is_name(word) else None
        elif word[0] in "0123456789":
            kind = "INTEGER" if re.fullmatch("0|[1-9][0-9]{0,29}", word) else None
        elif re.fullmatch(r"//|!=|<=|>=|[-+*()\[\]=<>]", word):
            kind = word
        else:
            kind = None
        found.append((kind, match.start()))
    return found


def closure(sets, items):
    """All items of Earley's method at this place; an item is (left, right, dot, origin)."""
    seen = set(items)
    queue = list(items)
    while queue:
        left, right, dot, origin = queue.pop()
        if dot < len(right):
            if right[dot] not in RULES:
                continue
            new = [(right[dot], rule, 0, len(sets)) for rule in RULES[right[dot]]]
        else:
            new = [
                (upper, rule, at + 1, begin)
                for upper, rule, at, begin in sets[origin]
                if at < len(rule) and rule[at] == left
            ]
        for item in new:
            if item not in seen:
                seen.add(item)
                queue.append(item)
    return seen


def bad_position(start, text):
    """The position of BadText for this text by Earley's method, None if the text is valid."""
    sets = []
    sets.append(closure(sets, {("START", (start,), 0, 0)}))
    for kind, position in tokens(text):
        moved = {
            (left, right, dot + 1, origin)
            for left, right, dot, origin in sets[-1]
            if kind is not None and dot < len(right) and right[dot] == kind
        }
        if not moved:
            return position
        sets.append(closure(sets, moved))
    return None if ("START", (start,), 1, 0) in sets[-1] else len(text)


# Texts of nodes, by the rows of the grammar.

def write_factor(node):
    if node[0] in ("number", "variable"):
        return str(node[1])
    if node[0] == "negate":
        return "-" + write_factor(node[1])
    return "(" + write_expression(node) + ")"


def write_term(node):
    if node[0] in PRODUCTS:
        return write_term(node[1]) + " " + node[0] + " " + write_factor(node[2])
    return write_factor(node)


def write_expression(node):
    if node[0] in SUMS:
        return write_expression(node[1]) + " " + node[0] + " " + write_term(node[2])
    return write_term(node)


def write_negation(node):
    if node[0] == "not":
        return "not " + write_negation(node[1])
    if node[0] in COMPARISONS:
        return write_expression(node[1]) + " " + node[0] + " " + write_expression(node[2])
    return "[" + write_condition(node) + "]"


def write_conjunction(node):
    if node[0] == "and":
        return write_conjunction(node[1]) + " and " + write_negation(node[2])
    return write_negation(node)


def write_condition(node):
    if node[0] == "or":
        return write_condition(node[1]) + " or " + write_conjunction(node[2])
    return write_conjunction(node)


# Random texts along the grammar, each as (list of tokens, node).

def some_factor(random, depth):
    choice = random.randrange(4 if depth > 0 else 2)
    if choice == 0:
        number = random.choice((0, 1, 2, 3, 7, 10, 99, 10 ** 15, 10 ** 29, LARGEST))
        return [str(number)], ("number", number)
    if choice == 1:
        name = random.choice(("x", "y", "z", "mo", "notx", "abcdefgh"))
        return [name], ("variable", name)
    if choice == 2:
        words, node = some_factor(random, depth - 1)
        return ["-"] + words, ("negate", node)
    words, node = some_expression(random, depth - 1)
    return ["("] + words + [")"], node


def some_row(random, depth, part, signs):
    words, node = part(random, depth)
    for number in range(random.choice((0, 0, 1, 1, 2, 3)) if depth > 0 else 0):
        sign = random.choice(signs)
        more, right = part(random, depth)
        words, node = words + [sign] + more, (sign, node, right)
    return words, node


def some_term(random, depth):
    return some_row(random, depth, some_factor, PRODUCTS)


def some_expression(random, depth):
    return some_row(random, depth, some_term, SUMS)


def some_negation(random, depth):
    choice = random.randrange(4) if depth > 0 else 3
    if choice == 0:
        words, node = some_negation(random, depth - 1)
        return ["not"] + words, ("not", node)
    if choice == 1:
        words, node = some_condition(random, depth - 1)
        return ["["] + words + ["]"], node
    left_words, left = some_expression(random, depth - 1)
    right_words, right = some_expression(random, depth - 1)
    sign = random.choice(COMPARISONS)
    return left_words + [sign] + right_words, (sign, left, right)


def some_conjunction(random, depth):
    return some_row(random, depth, some_negation, ("and",))


def some_condition(random, depth):
    return some_row(random, depth, some_conjunction, ("or",))


def spaced(random, words):
    """The tokens as a text with as few or as many spaces as it may have."""
    text = " " * random.randrange(2)
    for before, word in zip([""] + words, words):
        touching = before[-1:].isalpha() and word[0].isalpha()
        touching = touching or before[-1:].isdigit() and word[0].isdigit()
        text += " " * random.choice((1, 2) if touching else (0, 0, 1, 3)) + word
    return text + " " * random.randrange(2)


# The values of nodes.

class Failure(Exception):
    def __init__(self, reason):
        Exception.__init__(self, reason)
        self.reason = reason


def value(node, values):
    """The value of a node where values is a dict; raises Failure."""
    word = node[0]
    if word == "number":
        return node[1]
    if word == "variable":
        return values.get(node[1], 0)
    sides = [value(side, values) for side in node[1:]]
    if word == "negate":
        return -sides[0]
    if word == "not":
        return not sides[0]
    left, right = sides
    if word in ("//", "mod"):
        if right == 0:
            raise Failure("division")
        # The quotient rounded down, made from the one of the absolute values.
        quotient = abs(left) // abs(right)
        if (left < 0) != (right < 0):
            quotient = -quotient if quotient * abs(right) == abs(left) else -quotient - 1
        return quotient if word == "//" else left - quotient * right
    if word in ("+", "-", "*"):
        result = {"+": left + right, "-": left - right, "*": left * right}[word]
        if len(str(abs(result))) > 30:
            raise Failure("overflow")
        return result
    if word in ("and", "or"):
        return {"and": left and right, "or": left or right}[word]
    order = (left > right) - (left < right)
    return order in {"=": (0,), "!=": (-1, 1), "<": (-1,), "<=": (-1, 0), ">": (1,), ">=": (0, 1)}[word]
