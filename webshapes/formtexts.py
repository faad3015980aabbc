"""Forms as texts."""

from webshapes.errors import NoForm
from webshapes.forms import DEEPEST, LISTS, MOST_BONDS, MOST_FORMS, MOST_LISTED, WALKS
from webshapes.forms import are_bounds, length_of, straight_parts
from webshapes.nodes import is_name, is_whole, node_in, show_node
from webshapes.tokens import END, tokens_of


def show_high(high):
    return "*" if high is None else str(high)


# What stands between the brackets.
def show_inside(form):
    if form[0] == "closed":
        return ", ".join(form[1])
    ahead = [str(form[1]), show_high(form[2]), form[3]] if form[0] in WALKS else []
    return ", ".join(ahead + [show_form(part) for part in straight_parts(form)])


def show_form(form):
    head = form[0]
    if length_of(head) == 1:
        return head
    if head == "keeps":
        return head + " " + form[1]
    if head in ("from", "upto", "is"):
        return head + " " + show_node(form[1])
    inside = show_inside(form)
    return f"{head}({inside})"


# A form's tokens, how many of them are read, and how many forms have begun.
class FormReader:
    def __init__(self, text):
        self.tokens = tokens_of(text)
        self.place = 0
        self.forms = 0

    def shown(self):
        return self.tokens[self.place][0]

    # What the token that is shown stands for, where it fits there.
    def taken(self, value, fits):
        if not fits:
            raise NoForm(self.tokens[self.place][1])
        self.place = self.place + 1
        return value

    def skip(self, token):
        self.taken(token, self.shown() == token)


def read_word(reader):
    word = reader.shown()
    return reader.taken(word, is_name(word))


def read_value(reader):
    node = node_in(reader.shown())
    return reader.taken(node, node is not None)


def read_number(reader):
    number = node_in(reader.shown())
    return reader.taken(number, is_whole(number))


def read_low(reader):
    low = node_in(reader.shown())
    return reader.taken(low, are_bounds(low, None))


def read_high(reader, low):
    if reader.shown() == "*":
        return reader.taken(None, True)
    high = node_in(reader.shown())
    return reader.taken(high, high is not None and are_bounds(low, high))


def read_step(reader):
    if reader.shown() != "^":
        return read_word(reader)
    reader.skip("^")
    return "^" + read_word(reader)


# Behind a comma something must stand, so it is refused itself where there is no room for that.
def read_comma(reader, has_room):
    reader.taken(",", reader.shown() == "," and has_room)


def read_closed(reader):
    bonds = []
    reader.skip("(")
    while reader.shown() != ")":
        if bonds:
            read_comma(reader, len(bonds) < MOST_BONDS)
        bond = reader.shown()
        bonds.append(reader.taken(bond, is_name(bond) and bond not in bonds))
    reader.skip(")")
    return ("closed", tuple(sorted(bonds)))


def read_not(reader, depth, walked):
    reader.skip("(")
    part = read_part(reader, depth + 1, walked)
    reader.skip(")")
    return ("not", part)


def read_list(reader, head, depth, walked):
    parts = []
    reader.skip("(")
    while reader.shown() != ")":
        if parts:
            read_comma(reader, len(parts) < MOST_LISTED and reader.forms < MOST_FORMS)
        parts.append(read_part(reader, depth + 1, walked))
    reader.skip(")")
    return (head, tuple(parts))


def read_walk(reader, head, depth):
    reader.skip("(")
    low = read_low(reader)
    reader.skip(",")
    high = read_high(reader, low)
    reader.skip(",")
    step = read_step(reader)
    reader.skip(",")
    part = read_part(reader, depth + 1, True)
    reader.skip(")")
    return (head, low, high, step, part)


# Whether a form may begin so behind as many forms, with room for the one that must stand in it.
def may_begin(head, forms, depth, walked):
    if length_of(head) is None or (walked and (head in WALKS or head == "closed")):
        return False
    within = 1 if head in WALKS or head == "not" else 0
    return forms + 1 + within <= MOST_FORMS and depth + within <= DEEPEST


# depth: how many forms stand one within another, this one counted; walked: whether it stands in a many or each.
def read_part(reader, depth, walked):
    head = reader.shown()
    reader.taken(head, may_begin(head, reader.forms, depth, walked))
    reader.forms = reader.forms + 1
    if head in ("from", "upto"):
        return (head, read_number(reader))
    if head == "is":
        return (head, read_value(reader))
    if head == "keeps":
        return (head, read_word(reader))
    if head == "closed":
        return read_closed(reader)
    if head == "not":
        return read_not(reader, depth, walked)
    if head in LISTS:
        return read_list(reader, head, depth, walked)
    if head in WALKS:
        return read_walk(reader, head, depth)
    return (head,)


def read_form(text):
    if not isinstance(text, str):
        raise NoForm(0)
    reader = FormReader(text)
    form = read_part(reader, 1, False)
    reader.skip(END)
    return form
