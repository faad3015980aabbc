"""Reasons for what a form tells of a node."""

from webshapes.forms import LISTS, WALKS
from webshapes.values import is_between, keeps_form
from webshapes.webs import ends


# Reasons rest on no claim that isn't needed. So, of a name that stands in the form with the sign "with" alone, they
# rest on claims of the form's own verdict alone, and a reason that comes of what was kept ahead of a round stays right.

# found: a tuple of verdict and reason for each part.
def places_with(found, verdict):
    return [place for place, one in enumerate(found) if one[0] == verdict]


def reasons_among(found):
    return tuple([one[1] for one in found])


def one_reason(found):
    yes = places_with(found, True)
    if len(yes) == 1:
        return (True, ("alone", yes[0], reasons_among(found)))
    if len(yes) == 0:
        return (False, ("every", reasons_among(found)))
    return (False, ("two", yes[0], yes[1], found[yes[0]][1], found[yes[1]][1]))


def listed_reason(head, found):
    if head == "one":
        return one_reason(found)
    parting = places_with(found, head != "all")
    # Without a part that goes against it, all and none are kept, some is not.
    if parting:
        return (head == "some", ("part", parting[0], found[parting[0]][1]))
    return (head != "some", ("every", reasons_among(found)))


# shown: a tuple of end, verdict, reason for each end.
def ends_with(shown, verdict):
    return tuple([(end, reason) for end, own, reason in shown if own == verdict])


def many_reason(low, high, shown):
    yes = ends_with(shown, True)
    no = ends_with(shown, False)
    if len(yes) < low:
        return (False, ("lacks", no))
    if high is None:
        return (True, ("count", yes, ()))
    if len(yes) > high:
        return (False, ("over", yes))
    return (True, ("count", yes, no))


def each_reason(low, high, shown):
    if not is_between(len(shown), low, high):
        return (False, ("bound",))
    no = ends_with(shown, False)
    if no:
        return (False, ("end", no[0][0], no[0][1]))
    return (True, ("ends", tuple([one[2] for one in shown])))


def walk_reason(web, form, node, kept):
    shown = [(end,) + reason_of(web, form[4], end, kept) for end in ends(web, node, form[3])]
    if form[0] == "many":
        return many_reason(form[1], form[2], shown)
    return each_reason(form[1], form[2], shown)


def reason_of(web, form, node, kept):
    head = form[0]
    if head == "keeps":
        return (kept(node, form[1]), ("claim",))
    if head == "not":
        inner = reason_of(web, form[1], node, kept)
        return (not inner[0], ("turn", inner[1]))
    if head in LISTS:
        return listed_reason(head, [reason_of(web, part, node, kept) for part in form[1]])
    if head in WALKS:
        return walk_reason(web, form, node, kept)
    return (keeps_form(web, form, node, kept), ("plain",))
