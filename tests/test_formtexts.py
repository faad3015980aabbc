import random
import re
import unittest

from tests.making import random_form
from tests.things import ALL_ODD, nested
from webshapes.errors import NoForm
from webshapes.forms import is_form, parts_in
from webshapes.formtexts import read_form, show_form

ANY = ("any",)
GREATEST = "9" * 30
TEXTS = {
    "any": ANY, "thing": ("thing",), "number": ("number",), "said": ("said",),
    "from 3": ("from", 3), "from -3": ("from", -3), "upto -2": ("upto", -2), "upto 0": ("upto", 0),
    "from " + GREATEST: ("from", 10 ** 30 - 1), "upto -" + GREATEST: ("upto", 1 - 10 ** 30),
    "is ann": ("is", "ann"), "is 5": ("is", 5), "is -5": ("is", -5), "is 'red": ("is", ("red",)), "is '": ("is", ("",)),
    "is 'abcdefgh": ("is", ("abcdefgh",)), "is abcdefgh": ("is", "abcdefgh"), "is -" + GREATEST: ("is", 1 - 10 ** 30),
    "keeps adult": ("keeps", "adult"), "keeps abcdefgh": ("keeps", "abcdefgh"),
    "not(any)": ("not", ANY), "not(not(from 3))": ("not", ("not", ("from", 3))),
    "all()": ("all", ()), "some()": ("some", ()), "one()": ("one", ()), "none()": ("none", ()),
    "all(any)": ("all", (ANY,)), "some(thing)": ("some", (("thing",),)), "one(from 3)": ("one", (("from", 3),)),
    "none(keeps a)": ("none", (("keeps", "a"),)),
    "all(any, thing)": ("all", (ANY, ("thing",))), "some(any, any, any)": ("some", (ANY,) * 3),
    "one(all(), some(), one(), none())": ("one", (("all", ()), ("some", ()), ("one", ()), ("none", ()))),
    "none(any, any, any, any, any, any)": ("none", (ANY,) * 6),
    "many(1, *, knows, any)": ("many", 1, None, "knows", ANY),
    "many(0, 0, ^knows, not(any))": ("many", 0, 0, "^knows", ("not", ANY)),
    "each(0, 2, ^knows, keeps a)": ("each", 0, 2, "^knows", ("keeps", "a")),
    "each(60, 60, abcdefgh, is 'red)": ("each", 60, 60, "abcdefgh", ("is", ("red",))),
    "many(60, *, ^abcdefgh, all(any, some()))": ("many", 60, None, "^abcdefgh", ("all", (ANY, ("some", ())))),
    "closed()": ("closed", ()), "closed(age)": ("closed", ("age",)), "closed(age, knows)": ("closed", ("age", "knows")),
    "closed(a, b, c, d, e, f, g, h)": ("closed", tuple("abcdefgh")),
    "not(closed(a))": ("not", ("closed", ("a",))),
    "all(thing, many(1, *, age, from 18), closed(age, knows))":
        ("all", (("thing",), ("many", 1, None, "age", ("from", 18)), ("closed", ("age", "knows")))),
    "keeps keeps": ("keeps", "keeps"), "is any": ("is", "any"), "is not": ("is", "not"), "is is": ("is", "is"),
    "closed(all, many)": ("closed", ("all", "many")), "many(0, 1, closed, is many)": ("many", 0, 1, "closed", ("is", "many")),
    "each(0, *, ^each, keeps each)": ("each", 0, None, "^each", ("keeps", "each")), "keeps from": ("keeps", "from"),
}
TOKEN = r"[a-z]+|-?[0-9]+|'[a-z]*|[(),*^]"


def tokens(text):
    return re.findall(TOKEN, text)


def joined(pieces, blanks):
    """The tokens with as many blanks ahead of, between and behind them, one at least where words would grow together."""
    text = blanks
    for place, piece in enumerate(pieces):
        text += piece
        grow = piece[-1].isalpha() and place + 1 < len(pieces) and pieces[place + 1][0].isalpha()
        text += " " if grow and not blanks else blanks
    return text


def full_list(forms, word="all"):
    """The text of a form with just so many forms in it, of lists of at most six."""
    return show_form(full_form(forms, word))


def full_form(forms, word="all"):
    rest, parts = forms - 1, []
    while rest > 0:
        size = min(rest, 7)
        parts.append((word, (ANY,) * (size - 1)))
        rest -= size
    return (word, tuple(parts))


class Shown(unittest.TestCase):
    def test_each_word(self):
        for text, form in TEXTS.items():
            self.assertTrue(is_form(form), text)
            self.assertEqual(show_form(form), text)

    def test_each_word_within_others(self):
        for text, form in TEXTS.items():
            self.assertEqual(show_form(("not", form)), f"not({text})")
            for word in ("all", "some", "one", "none"):
                self.assertEqual(show_form((word, (form, ANY, form))), f"{word}({text}, any, {text})")
            if "many" not in text and "each" not in text and "closed" not in text:
                self.assertEqual(show_form(("many", 2, None, "^a", form)), f"many(2, *, ^a, {text})")
                self.assertEqual(show_form(("each", 2, 3, "a", form)), f"each(2, 3, a, {text})")


class Read(unittest.TestCase):
    def test_each_text(self):
        for text, form in TEXTS.items():
            self.assertEqual(read_form(text), form)

    def test_each_text_within_others(self):
        for text, form in TEXTS.items():
            self.assertEqual(read_form(f"not({text})"), ("not", form))
            for word in ("all", "some", "one", "none"):
                self.assertEqual(read_form(f"{word}({text}, any, {text})"), (word, (form, ANY, form)))
            if "many" not in text and "each" not in text and "closed" not in text:
                self.assertEqual(read_form(f"many(2, *, ^a, {text})"), ("many", 2, None, "^a", form))
                self.assertEqual(read_form(f"each(2, 3, a, {text})"), ("each", 2, 3, "a", form))

    def test_blanks_everywhere(self):
        for text, form in TEXTS.items():
            for blanks in ("", " ", "  ", "     "):
                self.assertEqual(read_form(joined(tokens(text), blanks)), form, text)

    def test_blanks_at_each_place_alone(self):
        for text, form in TEXTS.items():
            pieces = tokens(joined(tokens(text), ""))
            for place in range(len(pieces) + 1):
                for blanks in (" ", "   "):
                    spread = joined(pieces[:place], "") + blanks + joined(pieces[place:], "")
                    self.assertEqual(read_form(spread), form, spread)

    def test_without_a_blank_where_tokens_do_not_grow_together(self):
        self.assertEqual(read_form("from3"), ("from", 3))
        self.assertEqual(read_form("upto-3"), ("upto", -3))
        self.assertEqual(read_form("is'red"), ("is", ("red",)))
        self.assertEqual(read_form("is'"), ("is", ("",)))
        self.assertEqual(read_form("is5"), ("is", 5))
        self.assertEqual(read_form("many(1,*,^ knows,any)"), ("many", 1, None, "^knows", ANY))
        self.assertEqual(read_form("all(is ann,is'red,is5)"), ("all", (("is", "ann"), ("is", ("red",)), ("is", 5))))

    def test_bonds_of_closed_in_any_order(self):
        self.assertEqual(read_form("closed(knows, age)"), ("closed", ("age", "knows")))
        self.assertEqual(read_form("closed(h, b, g, a, f, c, e, d)"), ("closed", tuple("abcdefgh")))
        self.assertEqual(read_form("not( closed(ab ,b, a))"), ("not", ("closed", ("a", "ab", "b"))))

    def test_bounds_that_are_just_kept(self):
        for word in ("all", "some", "one", "none"):
            form = full_form(40, word)
            self.assertEqual(parts_in(form), 40)
            self.assertEqual(read_form(full_list(40, word)), form)
        deep = nested(ANY, lambda form: ("not", form), 7)
        self.assertEqual(read_form("not(" * 7 + "any" + ")" * 7), deep)
        self.assertEqual(read_form("all(" * 8 + ")" * 8), nested(("all", ()), lambda form: ("all", (form,)), 7))
        self.assertEqual(read_form("not(" * 6 + "many(0, *, a, any)" + ")" * 6),
                         nested(("many", 0, None, "a", ANY), lambda form: ("not", form), 6))
        self.assertEqual(read_form("not(" * 7 + "closed(a)" + ")" * 7),
                         nested(("closed", ("a",)), lambda form: ("not", form), 7))

    def test_ten_thousand_signs(self):
        self.assertEqual(read_form(" " * 9997 + "any"), ANY)
        self.assertEqual(read_form("any" + " " * 9997), ANY)


class Refusals(unittest.TestCase):
    def refused(self, text, at):
        with self.assertRaises(NoForm, msg=repr(text)) as caught:
            read_form(text)
        self.assertEqual(caught.exception.at, at, text)

    def refused_behind(self, ahead, token, behind):
        """The token, ahead of which all is well, is refused in its place; also with blanks more."""
        for text in (ahead, "  " + ahead, ahead + "  "):
            self.refused(text + token + behind, len(text))
            self.refused(text + token, len(text))
            self.refused(text, len(text))

    def test_what_is_no_text(self):
        for thing in [thing for thing in ALL_ODD if not isinstance(thing, str)] + [0, 5, ANY, [], ["any"]]:
            self.refused(thing, 0)

    def test_without_signs_and_of_blanks_alone(self):
        for text in ("", " ", "   ", " " * 10000):
            self.refused(text, len(text))

    def test_each_cut_of_a_good_text(self):
        for text in TEXTS:
            pieces = tokens(text)
            for place in range(len(pieces)):
                for blanks in ("", " ", "   "):
                    cut = joined(pieces[:place], blanks)
                    self.refused(cut, len(cut))

    def test_a_text_behind_a_whole_form(self):
        for text in TEXTS:
            for more in ("any", ")", ",", "(", "*", "^", "is", ", any", "\n", "A", "-", "5", "'", "-5"):
                self.refused(f"{text} {more}", len(text) + 1)
                self.refused(f" {text}  {more} any", len(text) + 3)
        self.refused("is a1", 4)
        self.refused("is 1a", 4)
        self.refused("is ' red", 5)
        self.refused("from 5-3", 6)
        self.refused("is 'a'b", 5)
        self.refused("any()", 3)

    def test_signs_that_begin_no_token(self):
        for sign in ["\n", "\t", "A", "Z", "-", "--", "- 5", "-a", "-'", "+", ".", ";", ":", "!", "~", "_", "/", "\"", "`",
                     "{", "[", "@", "\u00e9", "\u0663"]:
            for text in TEXTS:
                pieces = tokens(text)
                for place in range(len(pieces) + 1):
                    ahead = joined(pieces[:place], " ")
                    behind = joined(pieces[place:], " ")
                    self.refused(ahead + sign + behind, len(ahead))
        self.refused("an\ny", 0)
        self.refused("any\n", 3)
        self.refused("\nany", 0)
        self.refused("all(any,\nany)", 8)

    def test_signs_within_a_token(self):
        self.refused("aNy", 0)
        self.refused("fromA", 4)
        self.refused("from 3A", 6)
        self.refused("is 'rEd", 5)
        self.refused("is aNn", 4)

    def test_words(self):
        for word in ("an", "anyy", "keepsadult", "isany", "notany", "closeda", "a", "x", "abcdefghi", "things", "most",
                     "least", "fromthree", "3", "-3", "'", "'any", "(", ")", ",", "*", "^"):
            self.refused(word, 0)
            self.refused(f"  {word}(any)", 2)
            self.refused_behind("not(", word, ")")
            self.refused_behind("all(any, ", word, ")")
            self.refused_behind("many(1, 2, knows, ", word, ")")
            if word != ")":
                self.refused_behind("all(", word, ")")

    def test_names_and_values(self):
        for token in ("abcdefghi", "a" * 9999, "5", "-5", "'a", "(", ")", ",", "*", "^"):
            self.refused_behind("keeps ", token, "")
            self.refused_behind("not(keeps ", token, ")")
            self.refused_behind("many(0, 1, ^", token, ", any)")
            self.refused_behind("closed(a, ", token, ")")
            if token != "^":
                self.refused_behind("each(0, 1, ", token, ", any)")
            if token != ")":
                self.refused_behind("closed(", token, ")")
        for token in ("abcdefghi", "'abcdefghi", "'" + "a" * 9990, "(", ")", ",", "*", "^"):
            self.refused_behind("is ", token, "")

    def test_numbers(self):
        for token in ("1" * 31, "-" + "1" * 31, "0" * 30, "1" * 9990, "00", "01", "-0", "-01", "-00", "007", "a", "from",
                      "'5", "'", "*", "(", ",", "^", ")"):
            self.refused_behind("from ", token, "")
            self.refused_behind("all(upto ", token, ")")
            if token[-1].isdigit() and "'" not in token:
                self.refused_behind("is ", token, "")

    def test_low_and_high(self):
        for token in ("61", "600", "-1", "-0", "00", "01", "1" * 31, "*", "a", "'1", "(", ")", ",", "^", "any"):
            self.refused_behind("many(", token, ", 2, knows, any)")
            self.refused_behind("each(", token, ", *, knows, any)")
            if token != "*":
                self.refused_behind("many(0, ", token, ", knows, any)")
                self.refused_behind("each(60, ", token, ", ^knows, any)")
        for low in (1, 5, 60):
            for high in sorted({0, low - 1}):
                self.refused_behind(f"many({low}, ", str(high), ", knows, any)")
                self.refused_behind(f"not(each({low},", str(high), ", knows, any))")

    def test_bonds_told_twice(self):
        self.refused_behind("closed(a, ", "a", ")")
        self.refused_behind("closed(b, a, ", "b", ", c)")
        self.refused_behind("all(closed(a), closed(c, b, a, ", "c", "))")
        self.assertEqual(read_form("all(closed(a), closed(a))"), ("all", (("closed", ("a",)),) * 2))

    def test_the_comma_behind_the_last_of_a_list(self):
        for word in ("all", "some", "one", "none"):
            self.refused_behind(f"{word}(any, any, any, any, any, any", ",", " any)")
            self.refused_behind(f"not({word}(any, any, any, any, any, all(any, any)", ",", " any))")
            self.refused_behind(f"{word}({word}(any, any, any, any, any, any", ",", " any))")
        self.refused_behind("closed(a, b, c, d, e, f, g, h", ",", " i)")
        self.refused_behind("closed(h, g, f, e, d, c, b, a", ",", " a)")

    def test_the_comma_behind_the_fortieth_form(self):
        for word in ("all", "some", "one", "none"):
            text = full_list(40, word)
            self.assertTrue(text.endswith("any))"))
            self.refused_behind(text[:-1], ",", " any)")
            self.refused_behind(text[:-2], ",", " any))")
            self.assertEqual(parts_in(read_form(full_list(39, word)[:-2] + ", any))")), 40)

    def test_what_begins_as_the_fortieth_form(self):
        ahead = full_list(39)[:-2] + ", "
        self.assertEqual(parts_in(read_form(ahead + "any))")), 40)
        for token, behind in (("not", "(any)))"), ("many", "(0, 1, a, any)))"), ("each", "(0, 1, a, any)))")):
            self.refused_behind(ahead, token, behind)
            before = full_list(38)[:-2] + ", "
            self.assertEqual(parts_in(read_form(before + token + behind)), 40)
        for word in ("all", "some", "one", "none"):
            self.assertEqual(parts_in(read_form(ahead + word + "()))")), 40)
            self.refused_behind(ahead + word + "(", "any", ")))")
            self.refused_behind(ahead + word + "(", "closed", "(a))))")
            self.refused_behind(ahead + word + "(", ",", ")))")
        self.assertEqual(parts_in(read_form(ahead + "closed(a, b)))")), 40)
        before = full_list(38)[:-2] + ", "
        self.refused_behind(before + "many(0, 1, a, ", "not", "(any))))")
        self.refused_behind(before + "not(all()", ",", " any)))")
        self.refused_behind(before + "not(all(", "any", "))))")

    def test_what_begins_eighth_within_others(self):
        for outer in ("not(", "all(", "some(any, ", "one(", "none("):
            ahead = outer * 7
            self.assertTrue(is_form(read_form(ahead + "any" + ")" * 7)))
            for token, behind in (("not", "(any)"), ("many", "(0, 1, a, any)"), ("each", "(0, 1, a, any)")):
                self.refused_behind(ahead, token, behind + ")" * 7)
                self.assertTrue(is_form(read_form(outer * 6 + token + behind + ")" * 6)))
            for word in ("all", "some", "one", "none"):
                self.assertTrue(is_form(read_form(ahead + word + "()" + ")" * 7)))
                self.refused_behind(ahead + word + "(", "any", ")" * 8)
        ahead = "not(" * 6 + "many(0, 1, a, "
        self.assertTrue(is_form(read_form(ahead + "all()" + ")" * 7)))
        self.refused_behind(ahead, "not", "(any)" + ")" * 7)
        self.refused_behind(ahead + "all(", "any", ")" * 8)

    def test_walks_and_closed_within_walks(self):
        for walk in ("many(0, 1, a, ", "each(0, *, ^a, "):
            for outer in ("", "not(", "all(any, ", "some(", "one(not(", "none(all(some("):
                for token, behind in (("many", "(0, 1, a, any)"), ("each", "(0, 1, a, any)"), ("closed", "(a)")):
                    closing = ")" * (outer.count("(") + 1)
                    self.refused_behind(walk + outer, token, behind + closing)
                    self.refused_behind("not(" + walk + outer, token, behind + closing + ")")
            self.assertTrue(is_form(read_form(f"all({walk}any), closed(a), {walk}thing))")))

    def test_brackets_and_commas(self):
        for ahead, token, behind in (
            ("not", "any", ""), ("not", ")", ""), ("not", "not", "(any)"), ("not(any", "any", ")"), ("not(any", ",", " any)"),
            ("all", "any", ""), ("all", ")", ""), ("all(any", "any", ")"), ("all(any", "(", ")"), ("all(any,", ")", ""),
            ("all(any,", ",", "any)"), ("all(", ",", ")"), ("closed", "a", ""), ("closed(a", "b", ")"), ("closed(a,", ")", ""),
            ("closed(", ",", "a)"), ("closed(a,", ",", "b)"), ("closed(", "(", "a)"), ("many", "1", ""), ("many(1", "2", ""),
            ("many(1", ")", ""), ("many(1,", ",", ""), ("many(1, 2", ")", ""), ("many(1, 2", "a", ""), ("many(1, *", "*", ""),
            ("many(1, *, a", "any", ")"), ("many(1, 2, a", ")", ""),
            ("many(1, 2, a", "^", ""), ("many(1, 2, ^", "^", "a"), ("many(1, 2, a,", ")", ""), ("many(1, 2, a, any", ",", " any)"),
            ("many(1, 2, a, any", "any", ")"), ("all(keeps a", "b", ")"), ("all(keeps a", "(", ")"),
        ):
            self.refused_behind(ahead + " ", token, behind)
        self.refused("(any)", 0)
        self.refused("not(any))", 8)
        self.refused("all())", 5)
        self.refused("closed())", 8)


def completed(pieces):
    """A whole form's text that begins with these tokens, or None where none is found."""
    text = " ".join(pieces)
    for turn in range(60):
        try:
            read_form(text)
            return text
        except NoForm as error:
            if error.at < len(text):
                return None
        for more in (")", "any", "1", "(", ",", "*", "zz", "zzz"):
            try:
                read_form(f"{text} {more}")
            except NoForm as error:
                if error.at <= len(text) + 1:
                    continue
            text = f"{text} {more}"
            break
    return None


class ManyForms(unittest.TestCase):
    def test_there_and_back(self):
        chance = random.Random(16)
        for turn in range(3000):
            form = random_form(chance)
            self.assertTrue(is_form(form))
            text = show_form(form)
            self.assertEqual(read_form(text), form)
            spread = "".join([" " * chance.randint(0, 2) + piece + " " * chance.randint(0, 2) if piece in "(),*^"
                              else piece + " " for piece in tokens(text)])
            self.assertEqual(read_form(spread), form, spread)
            self.assertEqual(read_form(joined(tokens(text), "")), form)

    def test_no_token_is_let_by_behind_which_no_form_comes(self):
        chance = random.Random(61)
        words = ["any", "from", "is", "keeps", "not", "all", "one", "many", "each", "closed", "a", "abcdefghi", "0", "3",
                 "61", "00", "-0", "-7", "'x", "'", "(", ")", ",", "*", "^", "-", "\n"]
        for turn in range(3000):
            pieces = tokens(show_form(random_form(chance)))
            place = chance.randrange(len(pieces))
            deed = chance.randint(0, 2)
            pieces = pieces[:place] + [chance.choice(words)] * (deed > 0) + pieces[place + (deed < 2):]
            text = " ".join(pieces)
            try:
                form = read_form(text)
            except NoForm as error:
                good = tokens(text[:error.at])
                whole = completed(good)
                self.assertIsNotNone(whole, text)
                self.assertEqual(tokens(whole)[:len(good)], good)
                self.assertEqual(read_form(show_form(read_form(whole))), read_form(whole))
            else:
                self.assertTrue(is_form(form))
                self.assertEqual(sorted(tokens(show_form(form))), sorted(pieces))


if __name__ == "__main__":
    unittest.main()
