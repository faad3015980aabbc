"""Forms, reasons and papers told plainly: what a node keeps, some reason for it, and whether a reason shows it."""

from webshapes.knots import knots
from webshapes.nodes import is_node, kind_of
from webshapes.webs import bonds_of, ends

LISTS = ("all", "some", "one", "none")


def within(count, low, high):
    return count >= low and (high is None or count <= high)


def value(web, form, node, kept):
    word = form[0]
    if word == "any":
        return True
    if word in ("thing", "number", "said"):
        return kind_of(node) == word
    if word in ("from", "upto"):
        return kind_of(node) == "number" and (node >= form[1] if word == "from" else node <= form[1])
    if word == "is":
        return node == form[1]
    if word == "keeps":
        return kept(node, form[1])
    if word == "not":
        return not value(web, form[1], node, kept)
    if word == "closed":
        return set(bonds_of(web, node)) <= set(form[1])
    if word in LISTS:
        count = sum(value(web, part, node, kept) for part in form[1])
        return {"all": count == len(form[1]), "some": count > 0, "one": count == 1, "none": count == 0}[word]
    walked = ends(web, node, form[3])
    keeping = [end for end in walked if value(web, form[4], end, kept)]
    if word == "many":
        return within(len(keeping), form[1], form[2])
    return within(len(walked), form[1], form[2]) and keeping == walked


def listed_reason(chance, web, form, node, kept):
    values = [value(web, part, node, kept) for part in form[1]]
    reasons = [some_reason(chance, web, part, node, kept) for part in form[1]]
    yes = [place for place in range(len(values)) if values[place]]
    no = [place for place in range(len(values)) if not values[place]]
    if form[0] == "one" and len(yes) == 1:
        return ("alone", yes[0], tuple(reasons))
    if form[0] == "one" and len(yes) > 1:
        j, k = sorted(chance.sample(yes, 2))
        return ("two", j, k, reasons[j], reasons[k])
    parting = no if form[0] == "all" else yes
    if not parting:
        return ("every", tuple(reasons))
    place = chance.choice(parting)
    return ("part", place, reasons[place])


def walk_reason(chance, web, form, node, kept):
    word, low, high, step, inner = form
    shown = [(end, some_reason(chance, web, inner, end, kept)) for end in ends(web, node, step)]
    yes = tuple([pair for pair in shown if value(web, inner, pair[0], kept)])
    no = tuple([pair for pair in shown if not value(web, inner, pair[0], kept)])
    if word == "many":
        if within(len(yes), low, high):
            return ("count", yes, no)
        return ("lacks", no) if len(yes) < low else ("over", yes)
    if not within(len(shown), low, high):
        return ("bound",)
    if no:
        end, reason = chance.choice(no)
        return ("end", end, reason)
    return ("ends", tuple([reason for end, reason in shown]))


def some_reason(chance, web, form, node, kept):
    word = form[0]
    if word == "keeps":
        return ("claim",)
    if word == "not":
        return ("turn", some_reason(chance, web, form[1], node, kept))
    if word in LISTS:
        return listed_reason(chance, web, form, node, kept)
    if word in ("many", "each"):
        return walk_reason(chance, web, form, node, kept)
    return ("plain",)


def some_paper(chance, web, book, nodes):
    """A paper that holds, of a book no shape of which hangs on itself or on a later one; in an order of chance."""
    table = {}
    rows = []
    for name, word, form in book[0]:
        for node in nodes:
            table[(node, name)] = value(web, form, node, lambda end, other: table[(end, other)])
    for name, word, form in book[0]:
        for node in nodes:
            reason = some_reason(chance, web, form, node, lambda end, other: table[(end, other)])
            rows.append((node, name, table[(node, name)], chance.randint(0, 3), reason))
    chance.shuffle(rows)
    return rows


def rising(nodes):
    kinds = ("number", "said", "thing")
    keys = [(kinds.index(kind_of(node)), node) for node in nodes]
    return all(one < other for one, other in zip(keys, keys[1:]))


def ends_show(web, form, node, verdict, pairs, rests):
    nodes = [pair[0] for pair in pairs]
    if not rising(nodes) or not all(end in ends(web, node, form[3]) for end in nodes):
        return False
    return all(shows(web, form[4], end, verdict, reason, rests) for end, reason in pairs)


def walk_shows(web, form, node, verdict, reason, rests):
    word, low, high, step, inner = form
    walked = ends(web, node, step)
    if word == "many" and verdict:
        if reason[0] != "count" or not ends_show(web, form, node, True, reason[1], rests):
            return False
        if set([pair[0] for pair in reason[1]]) & set([pair[0] for pair in reason[2]]) or len(reason[1]) < low:
            return False
        enough = high is None or len(walked) - len(reason[2]) <= high
        return enough and ends_show(web, form, node, False, reason[2], rests)
    if word == "many" and reason[0] == "lacks":
        return len(walked) - len(reason[1]) < low and ends_show(web, form, node, False, reason[1], rests)
    if word == "many":
        return reason[0] == "over" and len(reason[1]) > high and ends_show(web, form, node, True, reason[1], rests)
    if verdict:
        pairs = list(zip(walked, reason[1]))
        fits = within(len(walked), low, high) and len(walked) == len(reason[1])
        return reason[0] == "ends" and fits and ends_show(web, form, node, True, pairs, rests)
    if reason == ("bound",):
        return not within(len(walked), low, high)
    return reason[0] == "end" and ends_show(web, form, node, False, [reason[1:]], rests)


def listed_shows(web, form, node, verdict, reason, rests):
    """verdicts: of the parts that the reason has reasons for."""
    word, parts = form
    if reason[0] == "every":
        if verdict == (word in ("some", "one")):
            return False
        verdicts = {place: word == "all" for place in range(len(parts))}
        reasons = reason[1]
    elif reason[0] == "part":
        if verdict == (word in ("all", "none")) or word == "one":
            return False
        verdicts, reasons = {reason[1]: word != "all"}, reason[2:]
    elif reason[0] == "alone":
        if word != "one" or not verdict or reason[1] >= len(parts):
            return False
        verdicts = {place: place == reason[1] for place in range(len(parts))}
        reasons = reason[2]
    else:
        verdicts, reasons = {reason[1]: True, reason[2]: True}, reason[3:]
        if word != "one" or verdict or not reason[1] < reason[2]:
            return False
    if len(verdicts) != len(reasons):
        return False
    return all(shows(web, parts[place], node, verdicts[place], each, rests) for place, each in zip(verdicts, reasons))


def shows(web, form, node, verdict, reason, rests):
    """Whether a reason, of a form such as reasons have, shows the verdict."""
    word = form[0]
    if word == "keeps":
        return reason == ("claim",) and rests(node, form[1], verdict)
    if word == "not":
        return reason[0] == "turn" and shows(web, form[1], node, not verdict, reason[1], rests)
    if word in LISTS:
        return listed_shows(web, form, node, verdict, reason, rests)
    if word in ("many", "each"):
        return walk_shows(web, form, node, verdict, reason, rests)
    return reason == ("plain",) and value(web, form, node, None) == verdict


def paper_holds(web, book, paper):
    """Of a book no shape of which hangs on itself, over whatever steps: then ranks are free."""
    claims = {(node, name): kept for node, name, kept, rank, reason in paper}
    forms = {name: form for name, word, form in book[0]}
    if len(claims) < len(paper):
        return False
    return all(shows(web, forms[name], node, kept, reason, lambda end, other, verdict: claims.get((end, other)) is verdict)
               for node, name, kept, rank, reason in paper)


# What stands behind a reason's word: a reason, reasons, a place, ends with reasons, a node.
INSIDES = {
    "plain": "", "claim": "", "bound": "", "turn": "R", "every": "Q", "ends": "Q", "part": "kR", "alone": "kQ",
    "two": "kkRR", "count": "EE", "lacks": "E", "over": "E", "end": "nR",
}


def is_inside(sort, thing):
    if sort == "R":
        return is_well_formed(thing)
    if sort == "k":
        return type(thing) is int and thing >= 0
    if sort == "n":
        return is_node(thing)
    if type(thing) is not tuple:
        return False
    if sort == "Q":
        return all(is_well_formed(part) for part in thing)
    return all(type(pair) is tuple and len(pair) == 2 and is_node(pair[0]) and is_well_formed(pair[1]) for pair in thing)


def is_well_formed(thing):
    if type(thing) is not tuple or not thing or type(thing[0]) is not str or thing[0] not in INSIDES:
        return False
    sorts = INSIDES[thing[0]]
    return len(sorts) == len(thing) - 1 and all(is_inside(sort, part) for sort, part in zip(sorts, thing[1:]))


def strictly_shows(web, form, node, verdict, thing, rests):
    """Of whatever thing; a word where another one should stand leads to a place that isn't there."""
    if not is_well_formed(thing):
        return False
    try:
        return shows(web, form, node, verdict, thing, rests)
    except (IndexError, TypeError):
        return False


def is_well_formed_row(row, names):
    if type(row) is not tuple or len(row) != 5 or not is_node(row[0]) or row[1] not in names:
        return False
    return type(row[2]) is bool and type(row[3]) is int and row[3] >= 0


def strictly_holds(web, book, paper):
    """Of whatever list, of any book."""
    shapes = {name: (word, form) for name, word, form in book[0]}
    if not all(is_well_formed_row(row, list(shapes)) for row in paper):
        return False
    told = {(node, name): (kept, rank) for node, name, kept, rank, reason in paper}
    if len(told) < len(paper):
        return False
    mates = {name: knot for knot in knots(book) for name in knot}
    for node, name, kept, rank, reason in paper:
        ranked = kept if shapes[name][0] == "least" else not kept

        def rests(end, other, verdict):
            if (end, other) not in told or told[(end, other)][0] is not verdict:
                return False
            return other not in mates[name] or not ranked or told[(end, other)][1] < rank
        if not strictly_shows(web, shapes[name][1], node, kept, reason, rests):
            return False
    return True


def ranked_paper(chance, web, book, rows):
    """A paper of all rows of the plain reading, with reasons of any such kind by what was kept ahead of each round."""
    table = {(node, name): (kept, rank) for node, name, kept, rank in rows}
    words = {name: word for name, word, form in book[0]}
    forms = {name: form for name, word, form in book[0]}
    mates = {name: knot for knot in knots(book) for name in knot}
    paper = []
    for node, name, kept, rank in rows:
        begin = words[name] == "greatest"

        def ahead(end, other):
            if other not in mates[name] or rank == 0 or table[(end, other)][1] == 0:
                return table[(end, other)][0]
            return table[(end, other)][0] if table[(end, other)][1] < rank else begin
        reason = needed_reason(chance, web, forms[name], node, ahead)
        paper.append((node, name, kept, rank, reason))
    return paper


def needed_reason(chance, web, form, node, kept):
    """Like some_reason, but of a many without a most no more than the ends that count."""
    word = form[0]
    if word == "not":
        return ("turn", needed_reason(chance, web, form[1], node, kept))
    if word in LISTS:
        reason = listed_reason(chance, web, form, node, kept)
        parts = [needed_reason(chance, web, part, node, kept) for part in form[1]]
        if reason[0] == "part":
            return ("part", reason[1], parts[reason[1]])
        if reason[0] == "two":
            return reason[:3] + (parts[reason[1]], parts[reason[2]])
        return reason[:-1] + (tuple(parts),)
    reason = some_reason(chance, web, form, node, kept)
    if word == "many" and form[2] is None and reason[0] == "count":
        return ("count", reason[1], ())
    return reason
