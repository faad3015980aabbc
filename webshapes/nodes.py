"""Names and nodes: what they are, their kinds, their order, their texts."""

from webshapes.errors import NoNode

KINDS = ("number", "said", "thing")
MOST_LETTERS = 8
MOST_FIGURES = 30
GREATEST_NUMBER = 999999999999999999999999999999


def are_letters(thing, fewest):
    if not isinstance(thing, str) or not fewest <= len(thing) <= MOST_LETTERS:
        return False
    return all(["a" <= sign <= "z" for sign in thing])


def is_name(thing):
    return are_letters(thing, 1)


# Python counts True and False among its ints; here they are no whole numbers.
def is_whole(thing):
    return isinstance(thing, int) and not isinstance(thing, bool)


def is_number(thing):
    return is_whole(thing) and abs(thing) <= GREATEST_NUMBER


def is_said(thing):
    return isinstance(thing, tuple) and len(thing) == 1 and are_letters(thing[0], 0)


def is_node(thing):
    return is_name(thing) or is_number(thing) or is_said(thing)


def kind_of(node):
    if isinstance(node, str):
        return "thing"
    if isinstance(node, tuple):
        return "said"
    return "number"


# Numbers and texts can't be compared, so each has a place of its own in the key.
def node_key(node):
    kind = kind_of(node)
    if kind == "number":
        return (0, node, "")
    if kind == "said":
        return (1, 0, node[0])
    return (2, 0, node)


def is_ahead(one, other):
    return node_key(one) < node_key(other)


def in_order(nodes):
    once = {}
    for node in nodes:
        once[node] = True
    return sorted(once, key=node_key)


def show_node(node):
    kind = kind_of(node)
    if kind == "number":
        return str(node)
    if kind == "said":
        return "'" + node[0]
    return node


def number_in(text):
    figures = text[1:] if text.startswith("-") else text
    if not 1 <= len(figures) <= MOST_FIGURES or not all(["0" <= sign <= "9" for sign in figures]):
        return None
    number = int(text)
    # A nought ahead and -0 are out just because no number is shown so.
    return number if str(number) == text else None


# None in the place of an error: readers of longer texts refuse with errors of their own.
def node_in(text):
    if not isinstance(text, str):
        return None
    if text.startswith("'"):
        said = (text[1:],)
        return said if is_said(said) else None
    return text if is_name(text) else number_in(text)


def read_node(text):
    node = node_in(text)
    if node is None:
        raise NoNode("no node's text")
    return node
