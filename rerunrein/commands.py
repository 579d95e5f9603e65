"""The lines of the console: their forms, and how their answers are written."""

from rerunrein.common import is_name, is_number, read_integer

# For each first word the rows of what may stand behind it.
FORMS = {
    "add": (("text",),), "clear": ((),), "program": ((),), "feed": (("name", "list"),), "begin": ((),),
    "ready": ((),), "do": (("name",), ("name", "name")), "run": (("choices",),), "status": (("name",),),
    "variables": (("name",),),
    "keep": ((),), "show": (("name",),), "needed": ((),), "useless": ((),), "recover": (("list", "names"),),
    "rule": (("text",),), "rules": ((),), "unrule": (("number",),), "steer": ((),), "wait": (("number",),),
    "why": (("number",),), "replay": ((),), "go": (("name",),), "cut": ((),), "script": ((),),
}
# What a line needs, by its first word.
NEEDS = {
    "feed": "program", "begin": "program",
    "ready": "machine", "do": "machine", "run": "machine", "status": "machine", "variables": "machine",
    "keep": "machine",
    "show": "record", "needed": "record", "useless": "record", "recover": "record", "rule": "record",
    "rules": "record", "unrule": "record", "steer": "record",
    "wait": "result", "why": "result", "replay": "result", "script": "result",
    "go": "replay", "cut": "replay",
}
NONE = "-"


def read_command(line):
    """The first word of a line and the list of what stands behind it, or None if it has none of the forms."""
    word, gap, rest = line.partition(" ")
    if word not in FORMS:
        return None
    if FORMS[word] == (("text",),):
        return (word, [rest]) if rest else None
    words = line.split(" ")[1:]
    for kinds in FORMS[word]:
        if len(kinds) == len(words):
            parts = [read_part(kind, text) for kind, text in zip(kinds, words)]
            return None if None in parts else (word, parts)
    return None


def read_part(kind, text):
    """What a word of this kind says, or None if it is none."""
    if kind == "name":
        return text if is_name(text) else None
    if kind == "number":
        return int(text) if is_number(text) else None
    if text == NONE:
        return []
    words = text.split(",")
    if kind == "names":
        return words if all([is_name(word) for word in words]) else None
    numbers = [read_integer(word) for word in words]
    if None in numbers or (kind == "choices" and min(numbers) < 0):
        return None
    return numbers


def joined_words(words):
    """The words as an answer."""
    return " ".join(words) if words else NONE


def joined_lines(lines):
    """The lines as an answer."""
    return "; ".join(lines) if lines else NONE


def event_text(event):
    """An event as a part of an answer."""
    return f"{event[0]}.{event[1]}"


def cut_text(cut):
    """A cut as an answer."""
    return ",".join([str(number) for number in cut])
