"""Forms: what is one, and what stands in one."""

from webshapes.nodes import is_name, is_node, is_number, is_whole
from webshapes.steps import is_step

# How many things the tuple of each sort of form has, its word counted.
LENGTHS = {
    "any": 1, "thing": 1, "number": 1, "said": 1,
    "from": 2, "upto": 2, "is": 2, "keeps": 2,
    "not": 2, "all": 2, "some": 2, "one": 2, "none": 2,
    "many": 5, "each": 5, "closed": 2,
}
LISTS = ("all", "some", "one", "none")
WALKS = ("many", "each")
MOST_LISTED = 6
MOST_BONDS = 8
MOST_ENDS = 60
MOST_FORMS = 40
DEEPEST = 8


# None of what is no form's word.
def length_of(word):
    return LENGTHS.get(word)


def is_headed(thing):
    if not isinstance(thing, tuple) or len(thing) == 0 or not isinstance(thing[0], str):
        return False
    return length_of(thing[0]) == len(thing)


def are_closed_bonds(thing):
    if not isinstance(thing, tuple) or len(thing) > MOST_BONDS:
        return False
    return all([is_name(bond) for bond in thing]) and list(thing) == sorted(set(thing))


def are_bounds(low, high):
    if not is_whole(low) or not 0 <= low <= MOST_ENDS:
        return False
    return high is None or (is_whole(high) and low <= high <= MOST_ENDS)


# What stands in the form but for the forms straight within; walked: whether it stands in a many or each.
def own_things_fit(form, walked):
    head = form[0]
    if head in ("from", "upto"):
        return is_number(form[1])
    if head == "is":
        return is_node(form[1])
    if head == "keeps":
        return is_name(form[1])
    if head == "closed":
        return not walked and are_closed_bonds(form[1])
    if head in LISTS:
        return isinstance(form[1], tuple) and len(form[1]) <= MOST_LISTED
    if head in WALKS:
        return not walked and are_bounds(form[1], form[2]) and is_step(form[3])
    return True


def straight_parts(form):
    head = form[0]
    if head == "not":
        return (form[1],)
    if head in LISTS:
        return form[1]
    if head in WALKS:
        return (form[4],)
    return ()


# How many forms are in the thing, 0 where it is no form; it ends at the first bound that is passed,
# so that neither a deep nor a wide thing is walked to its end.
def forms_counted(thing, depth, walked):
    if depth > DEEPEST or not is_headed(thing) or not own_things_fit(thing, walked):
        return 0
    total = 1
    for part in straight_parts(thing):
        within = forms_counted(part, depth + 1, walked or thing[0] in WALKS)
        total = total + within
        if within == 0 or total > MOST_FORMS:
            return 0
    return total


def is_form(thing):
    return forms_counted(thing, 1, False) > 0


def forms_in(form):
    found = [form]
    for part in straight_parts(form):
        found.extend(forms_in(part))
    return found


def parts_in(form):
    return len(forms_in(form))


def steps_in(form):
    return sorted(set([part[3] for part in forms_in(form) if part[0] in WALKS]))


def names_in(form):
    return sorted(set([part[1] for part in forms_in(form) if part[0] == "keeps"]))


def has_closed(form):
    return any([part[0] == "closed" for part in forms_in(form)])
