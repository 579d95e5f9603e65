"""What several modules share: names, integers, recorded events, and lists turned into tuples."""

LETTERS = "abcdefghijklmnopqrstuvwxyz"
DIGITS = "0123456789"
NAME_LENGTH = 8
MOST_DIGITS = 30
TOO_LARGE = 10 ** 30
MOST_PROCESSES = 40
RESERVED = (
    "and", "checkpoint", "else", "end", "if", "input", "mod", "not", "or",
    "process", "receive", "send", "set", "take", "while",
)
RECEIVING = ("receive", "take")


def is_name(thing):
    """Whether the thing is a string that processes and variables may have as their name."""
    if not isinstance(thing, str) or thing in RESERVED:
        return False
    if thing == "" or len(thing) > NAME_LENGTH:
        return False
    return all([letter in LETTERS for letter in thing])


def is_number(text):
    """Whether the text is an integer from 0 on as expressions have it: no sign, no leading zero."""
    if text == "" or len(text) > MOST_DIGITS:
        return False
    if text[0] == "0" and text != "0":
        return False
    return all([digit in DIGITS for digit in text])


def read_integer(text):
    """The integer that the text is, a "-" ahead if it is below 0, or None if it is none."""
    if is_number(text):
        return int(text)
    if text[:1] == "-" and text != "-0" and is_number(text[1:]):
        return int(text)
    return None


def is_integer(thing):
    """Whether the thing is an integer; True and False are none."""
    return isinstance(thing, int) and not isinstance(thing, bool)


def is_value(thing):
    """Whether the thing is an integer that a variable or a message may have."""
    return is_integer(thing) and abs(thing) < TOO_LARGE


def assigned(event):
    """The variable and the integer that an event in recorded form assigns to it, or None."""
    if event[0] == "set" or event[0] == "input":
        return (event[1], event[2])
    if event[0] in RECEIVING:
        return (event[2], event[3])
    return None


def frozen(thing):
    """The thing with its lists turned into tuples, also inside."""
    # Callers may pass anything, nested as deep as they like: stacks, since recursion would end.
    sources = [[thing]]
    places = [0]
    results = [[]]
    while len(sources) > 1 or places[0] == 0:
        source = sources[-1]
        place = places[-1]
        if place == len(source):
            sources.pop()
            places.pop()
            finished = tuple(results.pop())
            results[-1].append(finished)
            continue
        places[-1] = place + 1
        item = source[place]
        if isinstance(item, (list, tuple)):
            sources.append(item)
            places.append(0)
            results.append([])
        else:
            results[-1].append(item)
    return results[0][0]


def is_plain(thing):
    """Whether there is no list and no bool in the thing, also inside: nothing that stands for another thing."""
    parts = [thing]
    while parts:
        part = parts.pop()
        if isinstance(part, (list, bool)):
            return False
        if isinstance(part, tuple):
            parts.extend(part)
    return True
