import unittest

from tests.things import ALL_ODD, nested
from webshapes.errors import NoText
from webshapes.papertexts import read_paper, show_paper

P = ("plain",)
C = ("claim",)
GREAT = 10 ** 30 - 1
NINES = "9" * 30

REASONS = {
    "plain": P,
    "claim": C,
    "bound": ("bound",),
    "turn(plain)": ("turn", P),
    "turn(turn(claim))": ("turn", ("turn", C)),
    "every()": ("every", ()),
    "every(plain)": ("every", (P,)),
    "every(plain, claim, bound)": ("every", (P, C, ("bound",))),
    "ends()": ("ends", ()),
    "ends(claim)": ("ends", (C,)),
    "ends(claim, plain)": ("ends", (C, P)),
    "part(0, plain)": ("part", 0, P),
    "part(5, turn(claim))": ("part", 5, ("turn", C)),
    f"part({NINES}, claim)": ("part", GREAT, C),
    "alone(1)": ("alone", 1, ()),
    "alone(0, plain)": ("alone", 0, (P,)),
    "alone(1, plain, claim)": ("alone", 1, (P, C)),
    f"alone({NINES}, plain, claim, plain)": ("alone", GREAT, (P, C, P)),
    "two(0, 2, plain, claim)": ("two", 0, 2, P, C),
    "two(2, 0, claim, plain)": ("two", 2, 0, C, P),
    "two(1, 1, plain, every())": ("two", 1, 1, P, ("every", ())),
    f"two({NINES}, {NINES}, plain, plain)": ("two", GREAT, GREAT, P, P),
    "count( / )": ("count", (), ()),
    "count(ann: plain / )": ("count", (("ann", P),), ()),
    "count( / 'x: claim)": ("count", (), ((("x",), C),)),
    "count(ann: plain, 5: claim / 'x: plain)": ("count", (("ann", P), (5, C)), ((("x",), P),)),
    "count(-5: claim / ': plain, ann: claim, ann: plain)": ("count", ((-5, C),), ((("",), P), ("ann", C), ("ann", P))),
    "lacks()": ("lacks", ()),
    "lacks(ann: plain)": ("lacks", (("ann", P),)),
    "lacks(ann: plain, 0: turn(claim))": ("lacks", (("ann", P), (0, ("turn", C)))),
    "over()": ("over", ()),
    "over('abcdefgh: claim)": ("over", ((("abcdefgh",), C),)),
    f"over(b: claim, b: claim, -{NINES}: plain)": ("over", (("b", C), ("b", C), (-GREAT, P))),
    "end(ann, plain)": ("end", "ann", P),
    "end(-12, claim)": ("end", -12, C),
    "end('red, part(0, claim))": ("end", ("red",), ("part", 0, C)),
    "end(', bound)": ("end", ("",), ("bound",)),
    "every(count(a: every() / ), lacks(), alone(0, over(1: ends(plain, plain))))": (
        "every", (("count", (("a", ("every", ())),), ()), ("lacks", ()), ("alone", 0, (("over", ((1, ("ends", (P, P))),)),))),
    ),
    "count(ann: count(bob: plain / ) / bob: count( / ))": (
        "count", (("ann", ("count", (("bob", P),), ())),), (("bob", ("count", (), ())),),
    ),
}
ROWS = {
    "ann adult yes 0 plain": ("ann", "adult", True, 0, P),
    "ann adult no 3 claim": ("ann", "adult", False, 3, C),
    "5 a yes 12 plain": (5, "a", True, 12, P),
    "0 no no 0 plain": (0, "no", False, 0, P),
    "-5 yes yes 1 plain": (-5, "yes", True, 1, P),
    "'red abcdefgh no 0 plain": (("red",), "abcdefgh", False, 0, P),
    "' a yes 0 plain": (("",), "a", True, 0, P),
    f"abcdefgh a yes {NINES} plain": ("abcdefgh", "a", True, GREAT, P),
    f"{NINES} plain no 10 bound": (GREAT, "plain", False, 10, ("bound",)),
}
GOOD = "ann adult yes 0 every(plain, count(bob: claim / 5: plain))"


def wraps():
    return [
        lambda reason: ("turn", reason), lambda reason: ("every", (P, reason)), lambda reason: ("ends", (reason, P)),
        lambda reason: ("part", 1, reason), lambda reason: ("alone", 1, (P, reason)),
        lambda reason: ("two", 0, 1, reason, P), lambda reason: ("two", 0, 1, P, reason),
        lambda reason: ("count", (("ann", reason),), ()), lambda reason: ("count", (("ann", P),), (("bob", reason),)),
        lambda reason: ("lacks", (("ann", P), ("bob", reason))), lambda reason: ("over", ((5, reason),)),
        lambda reason: ("end", ("x",), reason),
    ]


def kinds_within(thing):
    found = {type(thing)}
    if isinstance(thing, (tuple, list)):
        for item in thing:
            found |= kinds_within(item)
    return found


class ThereAndBack(unittest.TestCase):
    def test_the_paper_without_rows(self):
        self.assertEqual(show_paper([]), "")
        self.assertEqual(read_paper(""), [])
        self.assertIsInstance(read_paper(""), list)

    def test_each_reason(self):
        for text, reason in REASONS.items():
            row = ("ann", "adult", True, 0, reason)
            self.assertEqual(show_paper([row]), f"ann adult yes 0 {text}")
            self.assertEqual(read_paper(f"ann adult yes 0 {text}"), [row])
            self.assertEqual(read_paper(f"'x a no 7 {text}"), [(("x",), "a", False, 7, reason)])

    def test_each_row(self):
        for text, row in ROWS.items():
            self.assertEqual(show_paper([row]), text)
            self.assertEqual(read_paper(text), [row])
            self.assertIs(type(read_paper(text)[0][2]), bool)
            self.assertIs(type(read_paper(text)[0][3]), int)

    def test_several_rows(self):
        rows = list(ROWS.values()) + [(5, "a", False, 2, reason) for reason in REASONS.values()]
        text = "\n".join(list(ROWS) + [f"5 a no 2 {reason}" for reason in REASONS])
        self.assertEqual(show_paper(rows), text)
        self.assertEqual(read_paper(text), rows)

    def test_a_pair_in_two_rows_stays(self):
        rows = [("ann", "a", True, 0, P), ("ann", "a", False, 0, P), ("ann", "a", True, 0, P)]
        self.assertEqual(read_paper(show_paper(rows)), rows)

    def test_only_tuples_within_what_is_read(self):
        for text in REASONS:
            for row in read_paper(f"ann adult yes 0 {text}"):
                self.assertLessEqual(kinds_within(row), {tuple, str, int, bool})

    def test_twelve_and_thirteen_one_within_another(self):
        for wrap in wraps():
            for innermost in (P, C, ("bound",), ("every", ()), ("lacks", ()), ("count", (), ())):
                twelve = [("ann", "a", True, 0, nested(innermost, wrap, 11))]
                self.assertEqual(read_paper(show_paper(twelve)), twelve)
                for more in (12, 13, 30):
                    deeper = [("ann", "a", True, 0, nested(innermost, wrap, more))]
                    with self.assertRaises(NoText) as caught:
                        read_paper(show_paper(twelve + deeper))
                    self.assertEqual(caught.exception.line, 1)

    def test_many_parts_and_rows(self):
        rows = [("ann", "a", True, k, ("every", (P, C) * 50)) for k in range(900)]
        rows.append((5, "b", False, 0, ("count", tuple([(k, P) for k in range(900)]), (("a", C),) * 900)))
        self.assertEqual(read_paper(show_paper(rows)), rows)

    def test_what_is_handed_in_stays_and_what_is_told_is_the_askers(self):
        rows = list(ROWS.values())
        text = show_paper(rows)
        self.assertEqual(rows, list(ROWS.values()))
        told = read_paper(text)
        told.clear()
        self.assertEqual(read_paper(text), rows)


class Refusals(unittest.TestCase):
    def refused(self, text, line):
        with self.assertRaises(NoText, msg=repr(text)) as caught:
            read_paper(text)
        self.assertEqual(caught.exception.line, line, text)

    def refused_everywhere(self, row):
        self.refused(row, 0)
        self.refused(f"{row}\n{GOOD}", 0)
        self.refused(f"{GOOD}\n{row}", 1)
        self.refused(f"{GOOD}\n{GOOD}\n{row}\n{GOOD}", 2)
        self.refused(f"{GOOD}\n{row}\n{row}", 1)

    def test_what_is_no_text(self):
        for thing in [thing for thing in ALL_ODD if not isinstance(thing, str)] + [0, [GOOD], (GOOD,), []]:
            self.refused(thing, 0)

    def test_rows(self):
        for row in (
            " ", "plain", "ann adult yes 0", "ann adult yes 0 ", "ann adult yes plain", "ann adult 0 plain",
            "ann yes 0 plain", "adult yes 0 plain", "ann adult yes 0 plain ", " ann adult yes 0 plain",
            "ann adult yes 0 plain plain", "ann adult yes 0 0 plain", "Ann adult yes 0 plain", "00 adult yes 0 plain",
            "-0 adult yes 0 plain", "abcdefghi adult yes 0 plain", "'abcdefghi adult yes 0 plain",
            "1" * 31 + " adult yes 0 plain", "ann Adult yes 0 plain", "ann 5 yes 0 plain", "ann 'x yes 0 plain",
            "ann abcdefghi yes 0 plain", "ann adult Yes 0 plain", "ann adult true 0 plain", "ann adult True 0 plain",
            "ann adult maybe 0 plain", "ann adult y 0 plain", "ann adult  0 plain", "ann  adult yes 0 plain",
            "ann adult  yes 0 plain", "ann adult yes  0 plain", "ann adult yes 0  plain", "ann  yes 0 plain",
            " adult yes 0 plain", "ann adult yes  plain", "ann,adult,yes,0,plain", "ann\tadult yes 0 plain",
        ):
            self.refused_everywhere(row)

    def test_ranks_and_places(self):
        for number in ("00", "01", "-1", "-0", "1" * 31, "1" + "0" * 30, "+1", "x", "'x", "", "1.0", "1 ", "'"):
            for row in (
                f"ann adult yes {number} plain", f"ann adult yes 0 part({number}, plain)",
                f"ann adult yes 0 alone({number}, plain)", f"ann adult yes 0 alone({number})",
                f"ann adult yes 0 two({number}, 1, plain, plain)", f"ann adult yes 0 two(1, {number}, plain, plain)",
            ):
                self.refused_everywhere(row)

    def test_ends(self):
        for node in ("", "00", "-0", "Ann", "abcdefghi", "'abcdefghi", "1" * 31, "a1", "^a", "''", "(ann)", "-"):
            for reason in (
                f"count({node}: plain / )", f"count( / {node}: plain)", f"lacks({node}: plain)", f"over({node}: plain)",
                f"lacks(ann: plain, {node}: plain)", f"end({node}, plain)",
            ):
                self.refused_everywhere(f"ann adult yes 0 {reason}")

    def test_reasons(self):
        for reason in (
            "plane", "Plain", "any", "plains", "plain5", "plain()", "claim()", "bound()", "plain(plain)", "", "()",
            "(plain)", "turn", "turn()", "turn(plain, plain)", "turn plain", "turn (plain)", "turn( plain)", "turn(plain )",
            "turn(plain", "turn(plain))", "turnplain", "turn[plain]", "every", "every(", "every)", "every(,)",
            "every(plain,)", "every(plain, )", "every(, plain)", "every(plain plain)", "every(plain,plain)",
            "every(plain , plain)", "every(plain,  plain)", "every( )", "every(plain; plain)", "every(0, plain)",
            "every(ann: plain)", "ends", "ends( )", "ends(plain,plain)", "ends(ann, plain)", "part", "part()", "part(0)",
            "part(plain)", "part(plain, 0)", "part(0, 1)", "part(0,plain)", "part(0 plain)", "part(0, plain, plain)",
            "part(0, plain", "part(0, )", "alone", "alone()", "alone(plain)", "alone(0, )", "alone(0,plain)", "alone(0,)",
            "alone(0, 1)", "alone(0, plain plain)", "alone(0, plain,plain)", "two", "two()", "two(0, 1)", "two(0, plain)",
            "two(0, 1, plain)", "two(0, 1, plain, plain, plain)", "two(0, plain, plain)", "two(0,1, plain, plain)",
            "two(0, 1,plain, plain)", "two(0, 1, plain,plain)", "two(plain, plain)", "count", "count()", "count(/)",
            "count( /)", "count(/ )", "count(  / )", "count( /  )", "count(  )", "count(ann: plain)", "count(ann: plain/ )",
            "count(ann: plain /)", "count(ann: plain / / )", "count( / ann: plain / )", "count(ann:plain / )",
            "count(ann : plain / )", "count(ann: plain, / )", "count(, ann: plain / )", "count(ann: plain,bob: plain / )",
            "count(plain / )", "count(ann / )", "count(ann, plain / )", "count( / ann: plain, )", "count( / ", "count( / )x",
            "count(ann: plain / bob: plain", "lacks", "lacks( )", "lacks( / )", "lacks(plain)", "lacks(ann)",
            "lacks(ann:plain)", "lacks(ann: )", "lacks(ann: plain,bob: plain)", "lacks(ann: plain bob: plain)",
            "lacks(ann: plain, )", "lacks(ann, plain)", "over", "over( )", "over( / )", "over(plain)", "over(: plain)",
            "over(ann: plain,  bob: plain)", "end", "end()", "end(ann)", "end(ann: plain)", "end(ann,plain)",
            "end(ann, plain, plain)", "end(plain)", "end(ann, 0)", "end(ann plain)", "maybe(plain)", "(plain)",
            "plain claim", "plain,claim", "plain, claim", "every(plain))", "every((plain)", "every(plain)(plain)",
        ):
            self.refused_everywhere(f"ann adult yes 0 {reason}")

    def test_empty_lines_and_line_ends(self):
        self.refused("\n", 0)
        self.refused("\n\n", 0)
        self.refused(f"\n{GOOD}", 0)
        self.refused(f"{GOOD}\n", 1)
        self.refused(f"{GOOD}\n{GOOD}\n", 2)
        self.refused(f"{GOOD}\n\n{GOOD}", 1)
        self.refused(f"{GOOD}\n\n", 1)
        self.refused("ann adult yes 0 every(plain,\nplain)", 0)
        self.refused("ann adult yes 0\nplain", 0)

    def test_a_blank_or_bracket_more_or_fewer_at_any_place(self):
        for text in list(ROWS) + [f"ann adult yes 0 {reason}" for reason in REASONS]:
            for place in range(len(text) + 1):
                for sign in " ()":
                    self.refused(f"{GOOD}\n{text[:place]}{sign}{text[place:]}", 1)
                if text[place:place + 1] in (" ", "(", ")"):
                    self.refused(f"{GOOD}\n{text[:place]}{text[place + 1:]}", 1)

    def test_whatever_is_read_is_written_just_so(self):
        for text in list(ROWS) + [f"ann adult yes 0 {reason}" for reason in REASONS]:
            for place in range(len(text) + 1):
                others = [text[:place] + text[place + 1:], text[:place] + text[place + 1:place + 2] + text[place:]]
                others = others + [text[:place] + sign + text[place + 1:] for sign in " ,:/()'-0a\n^*~A"]
                others = others + [text[:place] + sign + text[place:] for sign in ",:/'-0a\n^*~A"]
                for other in others:
                    self.written_so_or_refused(other)

    def written_so_or_refused(self, text):
        try:
            paper = read_paper(text)
        except NoText as error:
            self.assertIn(error.line, range(text.count("\n") + 1))
        else:
            self.assertEqual(show_paper(paper), text)


if __name__ == "__main__":
    unittest.main()
