"""Which forms a node keeps."""

from webshapes.forms import LISTS
from webshapes.nodes import KINDS, kind_of
from webshapes.webs import bonds_of, ends


# high None: there is no most.
def is_between(count, low, high):
    return low <= count and (high is None or count <= high)


def keeps_bound(form, node):
    if kind_of(node) != "number":
        return False
    return node >= form[1] if form[0] == "from" else node <= form[1]


# How many of the forms have the verdict; where there are as many as enough, no more of them are looked at.
def counted(web, forms, node, kept, verdict, enough):
    count = 0
    for form in forms:
        if keeps_form(web, form, node, kept) == verdict:
            count = count + 1
        if count == enough:
            return count
    return count


def keeps_listed(web, form, node, kept):
    head = form[0]
    if head == "one":
        return counted(web, form[1], node, kept, True, 2) == 1
    first = counted(web, form[1], node, kept, head != "all", 1)
    return first == 1 if head == "some" else first == 0


def keeps_walk(web, form, node, kept):
    walked = ends(web, node, form[3])
    if form[0] == "each" and not is_between(len(walked), form[1], form[2]):
        return False
    keeping = [end for end in walked if keeps_form(web, form[4], end, kept)]
    if form[0] == "each":
        return len(keeping) == len(walked)
    return is_between(len(keeping), form[1], form[2])


# kept tells of a node and a shape's name whether the node keeps the shape.
def keeps_form(web, form, node, kept):
    head = form[0]
    if head == "any":
        return True
    if head in KINDS:
        return kind_of(node) == head
    if head in ("from", "upto"):
        return keeps_bound(form, node)
    if head == "is":
        return node == form[1]
    if head == "keeps":
        return kept(node, form[1])
    if head == "not":
        return not keeps_form(web, form[1], node, kept)
    if head == "closed":
        return all([bond in form[1] for bond in bonds_of(web, node)])
    if head in LISTS:
        return keeps_listed(web, form, node, kept)
    return keeps_walk(web, form, node, kept)
