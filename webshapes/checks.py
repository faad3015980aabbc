"""The look at papers: which reasons show a verdict, and which papers hold."""

from webshapes.books import form_of, word_of
from webshapes.forms import LISTS
from webshapes.knots import knot_numbers
from webshapes.nodes import in_order, is_node, is_whole
from webshapes.values import is_between, keeps_form
from webshapes.webs import ends


# Whatever stands in a reason may be of any kind, so each thing is looked at before it is used.
def is_headed(reason, word, length):
    return isinstance(reason, tuple) and len(reason) == length and reason[0] == word


def is_place(thing, forms):
    return is_whole(thing) and 0 <= thing < len(forms)


# verdicts: the one that is to be shown for each of the forms.
def parts_show(web, forms, node, verdicts, reasons, rests):
    if not isinstance(reasons, tuple) or len(reasons) != len(forms):
        return False
    triples = list(zip(forms, verdicts, reasons))
    return all([shows(web, form, node, verdict, reason, rests) for form, verdict, reason in triples])


def alone_shows(web, forms, node, reason, rests):
    if not is_headed(reason, "alone", 3) or not is_place(reason[1], forms):
        return False
    verdicts = [place == reason[1] for place in range(len(forms))]
    return parts_show(web, forms, node, verdicts, reason[2], rests)


def two_shows(web, forms, node, reason, rests):
    if not is_place(reason[1], forms) or not is_place(reason[2], forms) or reason[1] >= reason[2]:
        return False
    return parts_show(web, (forms[reason[1]], forms[reason[2]]), node, (True, True), reason[3:], rests)


def part_shows(web, forms, node, verdict, reason, rests):
    if not is_headed(reason, "part", 3) or not is_place(reason[1], forms):
        return False
    return shows(web, forms[reason[1]], node, verdict, reason[2], rests)


def every_shows(web, forms, node, verdict, reason, rests):
    if not is_headed(reason, "every", 2):
        return False
    return parts_show(web, forms, node, [verdict for form in forms], reason[1], rests)


def listed_shows(web, form, node, verdict, reason, rests):
    head = form[0]
    if head == "one" and verdict:
        return alone_shows(web, form[1], node, reason, rests)
    if head == "one" and is_headed(reason, "two", 5):
        return two_shows(web, form[1], node, reason, rests)
    # All and none are kept, some and one are not kept, by every part alike.
    if verdict == (head in ("all", "none")):
        return every_shows(web, form[1], node, head == "all", reason, rests)
    return part_shows(web, form[1], node, head != "all", reason, rests)


def is_end_with_reason(thing, walked):
    # A truth is equal to a number, and yet no node.
    return isinstance(thing, tuple) and len(thing) == 2 and is_node(thing[0]) and thing[0] in walked


def ends_show(web, form, walked, verdict, pairs, rests):
    if not isinstance(pairs, tuple) or not all([is_end_with_reason(pair, walked) for pair in pairs]):
        return False
    nodes = [pair[0] for pair in pairs]
    if nodes != in_order(nodes):
        return False
    return all([shows(web, form, end, verdict, reason, rests) for end, reason in pairs])


def count_shows(web, form, walked, reason, rests):
    if not is_headed(reason, "count", 3):
        return False
    yes = reason[1]
    no = reason[2]
    if not ends_show(web, form[4], walked, True, yes, rests) or not ends_show(web, form[4], walked, False, no, rests):
        return False
    if len(in_order([pair[0] for pair in yes + no])) != len(yes) + len(no):
        return False
    return form[1] <= len(yes) and is_between(len(walked) - len(no), 0, form[2])


def many_shows(web, form, walked, verdict, reason, rests):
    if verdict:
        return count_shows(web, form, walked, reason, rests)
    if is_headed(reason, "lacks", 2):
        return ends_show(web, form[4], walked, False, reason[1], rests) and len(walked) - len(reason[1]) < form[1]
    if not is_headed(reason, "over", 2) or form[2] is None:
        return False
    return ends_show(web, form[4], walked, True, reason[1], rests) and len(reason[1]) > form[2]


def each_shows(web, form, walked, verdict, reason, rests):
    fits = is_between(len(walked), form[1], form[2])
    if verdict:
        if not fits or not is_headed(reason, "ends", 2):
            return False
        if not isinstance(reason[1], tuple) or len(reason[1]) != len(walked):
            return False
        return ends_show(web, form[4], walked, True, tuple(zip(walked, reason[1])), rests)
    if reason == ("bound",):
        return not fits
    return is_headed(reason, "end", 3) and ends_show(web, form[4], walked, False, (reason[1:],), rests)


# rests tells of a node, a name and a verdict whether such a claim may be rested on.
def shows(web, form, node, verdict, reason, rests):
    head = form[0]
    if head == "keeps":
        return reason == ("claim",) and rests(node, form[1], verdict)
    if head == "not":
        return is_headed(reason, "turn", 2) and shows(web, form[1], node, not verdict, reason[1], rests)
    if head in LISTS:
        return listed_shows(web, form, node, verdict, reason, rests)
    if head == "many":
        return many_shows(web, form, ends(web, node, form[3]), verdict, reason, rests)
    if head == "each":
        return each_shows(web, form, ends(web, node, form[3]), verdict, reason, rests)
    # The forms that are left name no shape, so none is asked of.
    return reason == ("plain",) and keeps_form(web, form, node, None) == verdict


def is_row(thing, names):
    if not isinstance(thing, tuple) or len(thing) != 5 or not is_node(thing[0]) or thing[1] not in names:
        return False
    return isinstance(thing[2], bool) and is_whole(thing[3]) and thing[3] >= 0


# Kept in a least knot and not kept in a greatest one must have a beginning: only there ranks count.
def is_ranked(book, row):
    return row[2] == (word_of(book, row[1]) == "least")


def may_rest(book, ties, row, other, verdict):
    if other is None or other[2] != verdict:
        return False
    return ties[other[1]] != ties[row[1]] or not is_ranked(book, row) or other[3] < row[3]


# rows: a dict of pairs and their rows; ties: a dict of names and their knots' numbers.
def row_holds(web, book, ties, rows, row):
    def rests(node, name, verdict):
        return may_rest(book, ties, row, rows.get((node, name)), verdict)
    return shows(web, form_of(book, row[1]), row[0], row[2], row[4], rests)


def holds(web, book, paper):
    names = [shape[0] for shape in book[0]]
    if not isinstance(paper, list) or not all([is_row(thing, names) for thing in paper]):
        return False
    rows = {}
    for row in paper:
        rows[row[:2]] = row
    ties = knot_numbers(book)
    return len(rows) == len(paper) and all([row_holds(web, book, ties, rows, row) for row in paper])
