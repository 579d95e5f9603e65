"""What [14] to [16] say of lines, check by check, without the package's way of reading programs.

Only the texts of expressions and conditions are left to the package; they have tests of their own.
"""

import re

from rerunrein.errors import BadText
from rerunrein.expressions import parse_condition, parse_expression, written
from tests.oracle import is_name


def parses(parse, text):
    try:
        parse(text)
    except BadText:
        return False
    return True


def has_form(line):
    word = line.split(" ")[0]
    if word in ("checkpoint", "else", "end"):
        return line == word
    if word in ("process", "take", "input"):
        found = re.fullmatch(f"{word} ([a-z]+)", line)
        return found is not None and is_name(found.group(1))
    if word == "receive":
        found = re.fullmatch("receive ([a-z]+) ([a-z]+)", line)
        return found is not None and is_name(found.group(1)) and is_name(found.group(2))
    if word in ("set", "send"):
        found = re.fullmatch(f"{word} ([a-z]+) (.+)", line)
        return found is not None and is_name(found.group(1)) and parses(parse_expression, found.group(2))
    if word in ("if", "while"):
        found = re.fullmatch(f"{word} (.+)", line)
        return found is not None and parses(parse_condition, found.group(1))
    return False


def first_word(line):
    return line.split(" ")[0]


def blocks_ahead(lines, at):
    """The blocks that are open ahead of line at, outermost first, as pairs of a word and elses."""
    blocks = []
    for line in lines[:at]:
        word = first_word(line)
        if word in ("if", "while"):
            blocks.append([word, 0])
        elif word == "else" and blocks:
            blocks[-1][1] += 1
        elif word == "end" and blocks:
            blocks.pop()
    return blocks


def block_is_bad(lines, at):
    word = first_word(lines[at])
    blocks = blocks_ahead(lines, at)
    if word != "process" and "process" not in [first_word(line) for line in lines[:at]]:
        return True
    if word in ("else", "end") and not blocks:
        return True
    if word == "else" and blocks[-1] != ["if", 0]:
        return True
    if word == "process" and blocks:
        return True
    return word in ("if", "while") and len(blocks) + 1 == 21


def name_is_bad(lines, at):
    words = lines[at].split(" ")
    before = [line.split(" ")[1] for line in lines[:at] if first_word(line) == "process"]
    everywhere = [line.split(" ")[1] for line in lines if first_word(line) == "process"]
    if words[0] == "process":
        return words[1] in before or len(before) + 1 == 41
    if words[0] == "send":
        return words[1] not in everywhere or words[1] == before[-1]
    if words[0] == "receive":
        return words[2] not in everywhere or words[2] == before[-1]
    return False


def expected_error(lines):
    """The fields of BadProgram, or None."""
    numbers = range(len(lines))
    if len(lines) > 400:
        return (400, "limit")
    for at in numbers:
        if not has_form(lines[at]):
            return (at, "line")
    for at in numbers:
        if block_is_bad(lines, at):
            return (at, "block")
    if blocks_ahead(lines, len(lines)):
        return (len(lines), "block")
    for at in numbers:
        if name_is_bad(lines, at):
            return (at, "name")
    return None if lines else (0, "name")


def read_body(lines, at):
    """The statements from line at on up to an else, an end or a process line, and where that is."""
    body = []
    while at < len(lines) and first_word(lines[at]) not in ("else", "end", "process"):
        word, *rest = lines[at].split(" ", 2)
        if word in ("set", "send"):
            body.append((word, rest[0], parse_expression(rest[1])))
        elif word in ("if", "while"):
            condition = parse_condition(lines[at].split(" ", 1)[1])
            part, at = read_body(lines, at + 1)
            other = ()
            if lines[at] == "else":
                other, at = read_body(lines, at + 1)
            body.append((word, condition, part) + ((other,) if word == "if" else ()))
        else:
            body.append((word, *rest))
        at += 1
    return tuple(body), at


def expected_rows(lines):
    """The pairs (name, body) of valid lines."""
    rows = []
    at = 0
    while at < len(lines):
        name = lines[at].split(" ")[1]
        body, at = read_body(lines, at + 1)
        rows.append((name, body))
    return rows


def expected_lines(rows):
    """The canonical lines of pairs (name, body)."""
    lines = []
    for name, body in rows:
        lines.append("process " + name)
        work = list(body)
        while work:
            statement = work.pop(0)
            if isinstance(statement, str):
                lines.append(statement)
            elif statement[0] in ("if", "while"):
                lines.append(statement[0] + " " + written(statement[1]))
                other = statement[3] if statement[0] == "if" else ()
                work = [*statement[2], *(["else"] if other else []), *other, "end"] + work
            else:
                lines.append(" ".join(word if isinstance(word, str) else written(word) for word in statement))
    return lines
