"""Programs: reading their lines, and the statements of their processes."""

from rerunrein.common import MOST_PROCESSES, is_name
from rerunrein.errors import BadProgram, BadText, UnknownProcess
from rerunrein.expressions import parse_condition, parse_expression, written

MOST_LINES = 400
MOST_DEEP = 20


class Program:
    """Processes with their statements; parse_program makes it."""

    def __init__(self, rows):
        """The rows are pairs (name, body)."""
        self.rows = tuple(rows)
        self.texts = tuple(canonical_lines(self.rows))

    def names(self):
        """The names of the processes."""
        return tuple([name for name, body in self.rows])

    def body(self, name):
        """The statements of a process."""
        for known, body in self.rows:
            if known == name:
                return body
        raise UnknownProcess(name)

    def lines(self):
        """The canonical lines."""
        return list(self.texts)

    def __eq__(self, other):
        # Equal canonical lines mean equal names and bodies, and, unlike bodies, they are not deep.
        return isinstance(other, Program) and self.texts == other.texts


def canonical_lines(rows):
    """The canonical lines of pairs (name, body)."""
    lines = []
    for name, body in rows:
        lines.append(f"process {name}")
        lines.extend(body_lines(body))
    return lines


def body_lines(body):
    """The canonical lines of statements."""
    lines = []
    for statement in body:
        lines.extend(statement_lines(statement))
    return lines


def statement_lines(statement):
    """The canonical lines of one statement, those of its parts included."""
    word = statement[0]
    if word == "set" or word == "send":
        return [f"{word} {statement[1]} {written(statement[2])}"]
    if word == "while":
        return [f"while {written(statement[1])}"] + body_lines(statement[2]) + ["end"]
    if word == "if":
        lines = [f"if {written(statement[1])}"] + body_lines(statement[2])
        if statement[3]:
            lines += ["else"] + body_lines(statement[3])
        return lines + ["end"]
    return [" ".join(statement)]


def parse_program(lines):
    """The program that the lines are."""
    texts = list(lines)
    if len(texts) > MOST_LINES:
        raise BadProgram(MOST_LINES, "limit")
    steps = read_lines(texts)
    check_blocks(steps)
    check_names(steps)
    return Program(built_rows(steps))


def read_lines(texts):
    """The list of what the lines say, a tuple each that begins with the first word."""
    steps = []
    for at, text in enumerate(texts):
        step = read_line(text)
        if step is None:
            raise BadProgram(at, "line")
        steps.append(step)
    return steps


def read_line(text):
    """What a line says, or None if it has none of the forms."""
    if text in ("checkpoint", "else", "end"):
        return (text,)
    word, gap, rest = text.partition(" ")
    if word in ("process", "take", "input"):
        return (word, rest) if is_name(rest) else None
    if word == "receive":
        variable, gap, sender = rest.partition(" ")
        return (word, variable, sender) if is_name(variable) and is_name(sender) else None
    if word == "set" or word == "send":
        return read_named_expression(word, rest)
    if word == "if" or word == "while":
        return read_block_head(word, rest)
    return None


def read_named_expression(word, rest):
    """What a set or send line says behind its word, or None."""
    name, gap, text = rest.partition(" ")
    if not is_name(name):
        return None
    try:
        return (word, name, parse_expression(text))
    except BadText:
        return None


def read_block_head(word, rest):
    """What an if or while line says behind its word, or None."""
    try:
        return (word, parse_condition(rest))
    except BadText:
        return None


def check_blocks(steps):
    """Raises an error if the blocks are not in order."""
    # The blocks that are not closed, from the outermost one in; an if becomes an else.
    blocks = []
    for at, step in enumerate(steps):
        word = step[0]
        if (at == 0 and word != "process") or not block_fits(word, blocks):
            raise BadProgram(at, "block")
        if word == "if" or word == "while":
            blocks.append(word)
        elif word == "else":
            blocks[-1] = word
        elif word == "end":
            blocks.pop()
    if blocks:
        raise BadProgram(len(steps), "block")


def block_fits(word, blocks):
    """Whether a line with this word may stand within these blocks."""
    if word == "process":
        return not blocks
    if word == "if" or word == "while":
        return len(blocks) < MOST_DEEP
    if word == "else":
        return blocks[-1:] == ["if"]
    return word != "end" or len(blocks) > 0


def check_names(steps):
    """Raises an error if the names of the processes are not in order."""
    if not steps:
        raise BadProgram(0, "name")
    names = [step[1] for step in steps if step[0] == "process"]
    begun = 0
    for at, step in enumerate(steps):
        if step[0] == "process":
            if begun == MOST_PROCESSES or step[1] in names[:begun]:
                raise BadProgram(at, "name")
            begun += 1
        elif step[0] == "send" or step[0] == "receive":
            other = step[1] if step[0] == "send" else step[2]
            if other not in names or other == names[begun - 1]:
                raise BadProgram(at, "name")


def built_rows(steps):
    """The pairs (name, body) of what the lines say, which is in order."""
    rows = []
    # The parts that are not complete, from the body of the process in, and the steps that began
    # all but the first one of them.
    parts = []
    heads = []
    for step in steps:
        word = step[0]
        if word == "process":
            parts = [[]]
            rows.append((step[1], parts[0]))
        elif word in ("if", "while", "else"):
            heads.append(step)
            parts.append([])
        elif word == "end":
            close_block(heads, parts)
        else:
            parts[-1].append(step)
    return [(name, tuple(body)) for name, body in rows]


def close_block(heads, parts):
    """Puts the statement of the innermost block into the part around it."""
    head = heads.pop()
    last = tuple(parts.pop())
    if head[0] == "while":
        parts[-1].append(("while", head[1], last))
    elif head[0] == "if":
        parts[-1].append(("if", head[1], last, ()))
    else:
        then = tuple(parts.pop())
        condition = heads.pop()[1]
        parts[-1].append(("if", condition, then, last))
