"""With which signs names stand in a form."""

from webshapes.forms import straight_parts

TURNED = {"with": "against", "against": "with"}


# The signs that a keeps straight within has, by those that one in the form's own place would have.
def signs_within(form, signs):
    head = form[0]
    if head == "one" or (head == "many" and form[2] is not None):
        return ["against", "with"]
    if head in ("not", "none"):
        return [TURNED[sign] for sign in signs]
    return signs


def signed_names(form, signs):
    if form[0] == "keeps":
        return [(form[1], sign) for sign in signs]
    found = []
    for part in straight_parts(form):
        found.extend(signed_names(part, signs_within(form, signs)))
    return found


def signs_in(form):
    return sorted(set(signed_names(form, ["with"])))
