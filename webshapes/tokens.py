"""The tokens of a form's text."""

LETTERS = "abcdefghijklmnopqrstuvwxyz"
FIGURES = "0123456789"
END = ""


def run_end(text, at, signs):
    while at < len(text) and text[at] in signs:
        at = at + 1
    return at


# A sign that begins no token is told as one of its own: no reader asks for it, so it is refused in its place.
def token_end(text, at):
    if text[at] in LETTERS:
        return run_end(text, at, LETTERS)
    if text[at] == "'":
        return run_end(text, at + 1, LETTERS)
    if text[at] == "-" or text[at] in FIGURES:
        return run_end(text, at + 1, FIGURES)
    return at + 1


# Tuples of a token and its place; behind the last one the end, as a token without signs.
def tokens_of(text):
    found = []
    at = 0
    while at < len(text):
        behind = token_end(text, at)
        if text[at] != " ":
            found.append((text[at:behind], at))
        at = behind
    found.append((END, len(text)))
    return found
