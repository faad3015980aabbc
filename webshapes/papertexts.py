"""Papers as texts."""

from webshapes.errors import NoText
from webshapes.nodes import is_name, is_whole, node_in, show_node

BARE = ("plain", "claim", "bound")
WORD_SIGNS = "abcdefghijklmnopqrstuvwxyz0123456789'-"
DEEPEST = 12


def show_ends(ends):
    shown = []
    for node, reason in ends:
        shown.append(show_node(node) + ": " + show_reason(reason))
    return ", ".join(shown)


def show_reasons(reasons):
    return [show_reason(reason) for reason in reasons]


# What stands between the brackets.
def show_inside(reason):
    word = reason[0]
    if word == "count":
        return show_ends(reason[1]) + " / " + show_ends(reason[2])
    if word in ("lacks", "over"):
        return show_ends(reason[1])
    if word in ("every", "ends"):
        return ", ".join(show_reasons(reason[1]))
    if word == "alone":
        return ", ".join([str(reason[1])] + show_reasons(reason[2]))
    if word == "end":
        return ", ".join([show_node(reason[1]), show_reason(reason[2])])
    if word == "part":
        return ", ".join([str(reason[1]), show_reason(reason[2])])
    if word == "two":
        return ", ".join([str(reason[1]), str(reason[2])] + show_reasons(reason[3:]))
    return show_reason(reason[1])


def show_reason(reason):
    word = reason[0]
    if word in BARE:
        return word
    inside = show_inside(reason)
    return f"{word}({inside})"


def show_row(row):
    kept = "yes" if row[2] else "no"
    return " ".join([show_node(row[0]), row[1], kept, str(row[3]), show_reason(row[4])])


def show_paper(paper):
    return "\n".join([show_row(row) for row in paper])


# A reason's text and how far it is read; each step refuses with the number of the row's line.
class ReasonReader:
    def __init__(self, text, line):
        self.text = text
        self.line = line
        self.at = 0

    def sees(self, piece):
        return self.text.startswith(piece, self.at)

    def skip(self, piece):
        if not self.sees(piece):
            raise NoText(self.line)
        self.at = self.at + len(piece)

    def word(self):
        start = self.at
        while self.at < len(self.text) and self.text[self.at] in WORD_SIGNS:
            self.at = self.at + 1
        return self.text[start:self.at]

    def is_done(self):
        return self.at == len(self.text)


# Ranks and places: numbers from 0 on, written as nodes are; None where the text is none.
def count_in(text):
    number = node_in(text)
    return number if is_whole(number) and number >= 0 else None


def read_place(reader):
    place = count_in(reader.word())
    if place is None:
        raise NoText(reader.line)
    return place


def read_end_node(reader):
    node = node_in(reader.word())
    if node is None:
        raise NoText(reader.line)
    return node


def read_ends(reader, stop, depth):
    ends = []
    while not reader.sees(stop):
        if ends:
            reader.skip(", ")
        node = read_end_node(reader)
        reader.skip(": ")
        ends.append((node, read_reason(reader, depth)))
    return tuple(ends)


def read_reasons(reader, depth):
    reasons = []
    while not reader.sees(")"):
        if reasons:
            reader.skip(", ")
        reasons.append(read_reason(reader, depth))
    return tuple(reasons)


def read_behind_comma(reader, depth):
    reader.skip(", ")
    return read_reason(reader, depth)


def read_alone(reader, depth):
    place = read_place(reader)
    reasons = []
    while not reader.sees(")"):
        reasons.append(read_behind_comma(reader, depth))
    return ("alone", place, tuple(reasons))


def read_two(reader, depth):
    one = read_place(reader)
    reader.skip(", ")
    other = read_place(reader)
    first = read_behind_comma(reader, depth)
    return ("two", one, other, first, read_behind_comma(reader, depth))


def read_count(reader, depth):
    yes = read_ends(reader, " / ", depth)
    reader.skip(" / ")
    return ("count", yes, read_ends(reader, ")", depth))


# What stands between the brackets; depth is that of reasons there.
def read_inside(reader, word, depth):
    if word == "turn":
        return ("turn", read_reason(reader, depth))
    if word in ("every", "ends"):
        return (word, read_reasons(reader, depth))
    if word in ("lacks", "over"):
        return (word, read_ends(reader, ")", depth))
    if word == "count":
        return read_count(reader, depth)
    if word == "alone":
        return read_alone(reader, depth)
    if word == "two":
        return read_two(reader, depth)
    if word == "part":
        place = read_place(reader)
        return ("part", place, read_behind_comma(reader, depth))
    if word == "end":
        node = read_end_node(reader)
        return ("end", node, read_behind_comma(reader, depth))
    raise NoText(reader.line)


def read_reason(reader, depth):
    if depth > DEEPEST:
        raise NoText(reader.line)
    word = reader.word()
    if word in BARE:
        return (word,)
    reader.skip("(")
    reason = read_inside(reader, word, depth + 1)
    reader.skip(")")
    return reason


def read_row(text, line):
    words = text.split(" ", 4)
    if len(words) != 5 or not is_name(words[1]) or words[2] not in ("yes", "no"):
        raise NoText(line)
    node = node_in(words[0])
    rank = count_in(words[3])
    if node is None or rank is None:
        raise NoText(line)
    reader = ReasonReader(words[4], line)
    reason = read_reason(reader, 1)
    if not reader.is_done():
        raise NoText(line)
    return (node, words[1], words[2] == "yes", rank, reason)


def read_paper(text):
    if not isinstance(text, str):
        raise NoText(0)
    if text == "":
        return []
    return [read_row(row, line) for line, row in enumerate(text.split("\n"))]
