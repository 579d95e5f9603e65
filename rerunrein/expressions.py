"""Expressions and conditions: reading them, writing them, and finding their values."""

# A text may be nested deep, and a long sum is a deep tree. So everything here works with stacks
# of its own instead of recursion.

from rerunrein.common import DIGITS, LETTERS, TOO_LARGE, is_name, is_number
from rerunrein.errors import BadText, Fault

WORDS = ("and", "mod", "not", "or")
# Longer signs stand first, since the longest token is taken.
SIGNS = ("//", "!=", "<=", ">=", "+", "-", "*", "(", ")", "[", "]", "=", "<", ">")
ARITHMETIC = ("+", "-", "*", "//", "mod")
COMPARISONS = ("=", "!=", "<", "<=", ">", ">=")
PREFIXES = ("not", "negate")
# How tightly an operator binds. Conditions are below 5, expressions from 5 on.
BINDING = {
    "or": 1, "and": 2, "not": 3,
    "=": 4, "!=": 4, "<": 4, "<=": 4, ">": 4, ">=": 4,
    "+": 5, "-": 5, "*": 6, "//": 6, "mod": 6, "negate": 7,
    "number": 8, "variable": 8,
}
LOOSEST_EXPRESSION = 5


def parse_expression(text):
    """The node of the expression that the text is."""
    return parsed(text, Reader(False))


def parse_condition(text):
    """The node of the condition that the text is."""
    return parsed(text, Reader(True))


def parsed(text, reader):
    """The node that the reader makes of the text."""
    for sign, worth, position in tokens(text):
        if not reader.fits(sign):
            raise BadText(position)
        reader.take_in(sign, worth)
    return reader.nodes[0]


def tokens(text):
    """The list of the tokens (sign, worth, position), "end" being the last one.

    What begins no token is "bad", which fits nowhere; nothing behind it matters.
    """
    found = []
    at = 0
    while at < len(text):
        if text[at] == " ":
            at += 1
            continue
        sign, worth, size = token_at(text, at)
        found.append((sign, worth, at))
        at += size
    found.append(("end", None, len(text)))
    return found


def token_at(text, at):
    """The token (sign, worth, size) that begins at this position."""
    if text[at] in LETTERS:
        return word_token(run_of(LETTERS, text, at))
    if text[at] in DIGITS:
        return number_token(run_of(DIGITS, text, at))
    for sign in SIGNS:
        if text.startswith(sign, at):
            return (sign, None, len(sign))
    return ("bad", None, 1)


def run_of(characters, text, at):
    """The longest part of the text from this position on that has these characters only."""
    end = at
    while end < len(text) and text[end] in characters:
        end += 1
    return text[at:end]


def word_token(word):
    """The token that a run of letters is."""
    if word in WORDS:
        return (word, None, len(word))
    if is_name(word):
        return ("variable", word, len(word))
    return ("bad", None, len(word))


def number_token(digits):
    """The token that a run of digits is."""
    if is_number(digits):
        return ("number", int(digits), len(digits))
    return ("bad", None, len(digits))


class Reader:
    """Makes a node of tokens that it takes in one after the other.

    Its place in the grammar, stage, is one of:
    "condition": a condition begins here,
    "factor": a factor begins here,
    "expression": an expression may end here,
    "bracket": a condition in brackets has ended here.
    """

    def __init__(self, of_condition):
        self.of_condition = of_condition
        self.stage = "condition" if of_condition else "factor"
        # Whether the comparison that is being read has its sign: it cannot have a second one.
        self.compared = False
        self.nodes = []
        self.operators = []
        self.brackets = []

    def fits(self, sign):
        """Whether some valid text goes on with this sign."""
        if self.stage == "condition" or self.stage == "factor":
            return self.may_begin(sign)
        return self.may_follow(sign)

    def may_begin(self, sign):
        """Whether an operand may begin with this sign here."""
        if sign in ("number", "variable", "-", "("):
            return True
        return self.stage == "condition" and sign in ("not", "[")

    def may_follow(self, sign):
        """Whether this sign may stand behind an operand here."""
        if self.stage == "expression" and sign in ARITHMETIC:
            return True
        bracket = self.brackets[-1] if self.brackets else None
        if bracket == "(":
            return sign == ")"
        if not self.of_condition:
            return sign == "end"
        if self.stage == "expression" and not self.compared:
            return sign in COMPARISONS
        if bracket == "[":
            return sign in ("and", "or", "]")
        return sign in ("and", "or", "end")

    def take_in(self, sign, worth):
        """Goes on with a sign that fits."""
        if self.stage == "condition" or self.stage == "factor":
            self.begin(sign, worth)
        elif sign == ")" or sign == "]":
            self.close(sign)
        elif sign == "end":
            self.join_down_to(0)
        else:
            self.put_between(sign)

    def begin(self, sign, worth):
        """Takes in what an operand begins with."""
        if sign == "number" or sign == "variable":
            self.nodes.append((sign, worth))
            self.stage = "expression"
        elif sign == "-":
            self.operators.append("negate")
            self.stage = "factor"
        elif sign == "(":
            self.operators.append(sign)
            self.brackets.append(sign)
            self.stage = "factor"
        else:
            self.operators.append(sign)
            if sign == "[":
                self.brackets.append(sign)

    def close(self, sign):
        """Takes in the end of the innermost open bracket."""
        self.join_down_to(0)
        self.operators.pop()
        self.brackets.pop()
        self.stage = "bracket" if sign == "]" else "expression"

    def put_between(self, sign):
        """Takes in an operator that stands between two operands."""
        self.join_down_to(BINDING[sign])
        self.operators.append(sign)
        if sign == "and" or sign == "or":
            self.stage = "condition"
            self.compared = False
        else:
            self.stage = "factor"
            self.compared = self.compared or sign in COMPARISONS

    def join_down_to(self, binding):
        """Makes nodes of the operators within the innermost bracket that bind at least so tightly."""
        while self.operators and BINDING.get(self.operators[-1], -1) >= binding:
            self.join_operands(self.operators.pop())

    def join_operands(self, operator):
        """Makes a node of an operator and the last operands."""
        right = self.nodes.pop()
        if operator in PREFIXES:
            self.nodes.append((operator, right))
        else:
            left = self.nodes.pop()
            self.nodes.append((operator, left, right))


def written(node):
    """The canonical text of a node."""
    texts = []
    parts = [node]
    while parts:
        part = parts.pop()
        if isinstance(part, str):
            texts.append(part)
        else:
            parts.extend(parts_of(part)[::-1])
    return "".join(texts)


def parts_of(node):
    """The texts and nodes that the text of a node consists of, from left to right."""
    word = node[0]
    if word == "number":
        return [str(node[1])]
    if word == "variable":
        return [node[1]]
    binding = BINDING[word]
    if word == "negate":
        return ["-"] + enclosed(node[1], binding)
    if word == "not":
        return ["not "] + enclosed(node[1], binding)
    # Operators group from the left, so the right side has to bind more tightly.
    return enclosed(node[1], binding) + [f" {word} "] + enclosed(node[2], binding + 1)


def enclosed(node, least):
    """The node as a part of a text, in brackets if it does not bind at least so tightly."""
    binding = BINDING[node[0]]
    if binding >= least:
        return [node]
    if binding < LOOSEST_EXPRESSION:
        return ["[", node, "]"]
    return ["(", node, ")"]


def evaluate(node, values):
    """The value of a node where the variables have these values."""
    known = {pair[0]: pair[1] for pair in values}
    results = []
    # Each entry is a node and whether the values of its sides are among the results already.
    work = [(node, False)]
    while work:
        part, sides_done = work.pop()
        word = part[0]
        if word == "number":
            results.append(part[1])
        elif word == "variable":
            results.append(known.get(part[1], 0))
        elif not sides_done:
            work.append((part, True))
            for side in part[:0:-1]:
                work.append((side, False))
        elif word in PREFIXES:
            side = results.pop()
            results.append(prefixed(word, side))
        else:
            right = results.pop()
            left = results.pop()
            results.append(combined(word, left, right))
    return results[0]


def prefixed(word, side):
    """The value of not or negate."""
    if word == "not":
        return not side
    return -side


def combined(word, left, right):
    """The value of an operator between two sides."""
    if word in ARITHMETIC:
        return calculated(word, left, right)
    if word in COMPARISONS:
        return compared_by(word, left, right)
    if word == "and":
        return left and right
    return left or right


def calculated(word, left, right):
    """The value of an arithmetic operator."""
    if word == "//" or word == "mod":
        if right == 0:
            raise Fault("division")
        return left // right if word == "//" else left % right
    if word == "+":
        result = left + right
    elif word == "-":
        result = left - right
    else:
        result = left * right
    if abs(result) >= TOO_LARGE:
        raise Fault("overflow")
    return result


def compared_by(word, left, right):
    """The value of a comparison."""
    if word == "=":
        return left == right
    if word == "!=":
        return left != right
    if word == "<":
        return left < right
    if word == "<=":
        return left <= right
    if word == ">":
        return left > right
    return left >= right


def holds(node, values):
    """Whether a condition is true; one that cannot be evaluated is not."""
    try:
        return evaluate(node, values)
    except Fault:
        return False
