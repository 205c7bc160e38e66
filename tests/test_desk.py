"""Promises 15.1 and 15.2: the desk."""

import unittest

from neatbooks.books import book
from neatbooks.counting import count_picks, pick_at
from neatbooks.desk import Desk
from neatbooks.errors import BadLore, BadText, LoreError, NoForm, NoName, NoNumber, NothingDone, TooMany
from neatbooks.hall import equal, worth
from neatbooks.lores import Lore
from neatbooks.reading import read_term
from neatbooks.runs import answer, wrong_places
from neatbooks.shares import fall, share
from neatbooks.texts import lore_text, term_text
from tests.samples import A, BARE, FOUR, LOOP, ONE, REST, TWICE, TWO, WIDE, chain, doublings, greatest_pick, layers
from tests.samples import odd_things, small_lores, told
from tests.test_joinings import free_signs


def text_of(lore):
    """The TEXT of a lore."""
    return lore_text(lore).replace("\n", "|")


def rules_text(lore, number):
    rules = [term_text(lore, left) + ">" + term_text(lore, right) for left, right in book(lore, pick_at(lore, number))]
    return " ".join(rules) or "none"


TERMS = ("a", "b", "f(a)", "f(f(b))", "f(f(f(f(a))))")


class Checks(unittest.TestCase):
    def desk(self, **lores):
        """A desk that keeps lores under names."""
        desk = Desk()
        for name, lore in lores.items():
            self.assertEqual(desk.tell(f"lore {name} {text_of(lore)}"), "ok")
        return desk

    def shown(self, desk):
        names = desk.tell("names")
        return (names, [desk.tell(f"show {name}") for name in names.split(" ") if names != "none"], desk.undoable())

    def check_refused(self, desk, error, line, **fields):
        ahead = self.shown(desk)
        with self.assertRaises(LoreError) as caught:
            desk.tell(line)
        self.assertIs(type(caught.exception), error, line)
        for name, thing in fields.items():
            self.assertEqual(getattr(caught.exception, name), thing, line)
        self.assertEqual(self.shown(desk), ahead)


class Answers(Checks):
    def test_word_by_word(self):
        desk = Desk()
        for line, said in (
            ("names", "none"), ("lore two sign a 0|sign b 0|sign f 1|f(a) = b|f(b) = a|", "ok"), ("names", "two"),
            ("show two", "sign a 0|sign b 0|sign f 1|f(a) = b|f(b) = a|"), ("lore loop sign a 0|sign f 1|a = f(a)|", "ok"),
            ("names", "loop two"), ("equal two a f(f(a))", "yes"), ("equal two a b", "no"), ("equal loop a f(f(f(a)))", "yes"),
            ("worth two", "2"), ("worth loop", "1"), ("picks two", "3"), ("picks loop", "1"), ("book two 0", "f(a)>b f(b)>a"),
            ("book two 1", "b>f(a) f(f(a))>a"), ("book loop 0", "f(a)>a"), ("answer two 1 f(f(b))", "f(a)"),
            ("answer two 2 f(f(a))", "f(b)"), ("wrong two 1 f(f(b))", "2"), ("wrong two 0 a", "0"), ("fall two", "2"),
            ("fall loop", "1"), ("share two 2", "3/8"), ("share loop 999999999", "1/999999999"), ("share loop 1", "1/1"),
            ("lore bare sign a 0|", "ok"), ("book bare 0", "none"), ("picks bare", "1"), ("worth bare", "0"),
            ("fall bare", "0"), ("share bare 7", "1/1"), ("answer bare 0 a", "a"), ("drop two", "ok"), ("names", "bare loop"),
            ("undo", "ok"), ("names", "bare loop two"), ("undo", "ok"), ("names", "loop two"), ("undo", "ok"), ("undo", "ok"),
            ("names", "none"),
        ):
            self.assertEqual(desk.tell(line), said, line)
            self.assertIs(type(desk.tell("names")), str)
        self.assertEqual(desk.undoable(), 0)
        self.check_refused(desk, NothingDone, "undo")

    def test_by_the_functions(self):
        for lore in [LOOP, TWO, FOUR, ONE, REST, TWICE, BARE] + small_lores(40, 5, 60):
            desk = self.desk(x=lore)
            self.assertEqual([desk.tell(f"{word} x") for word in ("worth", "picks", "fall", "show")], [
                str(worth(lore)), str(count_picks(lore)), str(fall(lore)), text_of(lore)])
            terms = [term_text(lore, term) for term in told(lore.lines)[-3:] + [A]]
            for one in terms:
                for other in terms:
                    same = equal(lore, read_term(lore, one), read_term(lore, other))
                    self.assertEqual(desk.tell(f"equal x {one} {other}"), "yes" if same else "no")
            for number in {0, count_picks(lore) - 1}:
                self.assertEqual(desk.tell(f"book x {number}"), rules_text(lore, number))
                pick = pick_at(lore, number)
                for text in terms:
                    term = read_term(lore, text)
                    self.assertEqual(desk.tell(f"answer x {number} {text}"), term_text(lore, answer(
                        lore, book(lore, pick), term)))
                    self.assertEqual(desk.tell(f"wrong x {number} {text}"), str(len(wrong_places(lore, pick, term))))
            for n in (1, 2, 10, 123456789):
                self.assertEqual(desk.tell(f"share x {n}"), "{}/{}".format(*share(lore, n)))

    def test_names(self):
        desk = self.desk(b=TWO, a=LOOP, abcdefgh=FOUR, ba=ONE, z=REST)
        self.assertEqual(desk.tell("names"), "a abcdefgh b ba z")
        self.assertEqual(desk.tell("show abcdefgh"), text_of(FOUR))
        # The words of the forms are names like others.
        for name in ("lore", "drop", "names", "show", "undo", "equal", "none"):
            desk.tell(f"lore {name} {text_of(LOOP)}")
            self.assertEqual(desk.tell(f"worth {name}"), "1")
        self.assertEqual(desk.tell("names"), "a abcdefgh b ba drop equal lore names none show undo z")

    def test_in_the_place_of_an_elder_one(self):
        desk = self.desk(x=TWO)
        desk.tell(f"lore x {text_of(LOOP)}")
        self.assertEqual((desk.tell("worth x"), desk.tell("names"), desk.undoable()), ("1", "x", 2))
        desk.tell(f"lore x {text_of(LOOP)}")
        self.assertEqual(desk.undoable(), 3)
        for text in (text_of(LOOP), text_of(TWO)):
            self.assertEqual(desk.tell("undo"), "ok")
            self.assertEqual(desk.tell("show x"), text)
        self.assertEqual(desk.tell("undo"), "ok")
        self.assertEqual((desk.tell("names"), desk.undoable()), ("none", 0))
        self.check_refused(desk, NothingDone, "undo")

    def test_undo_of_drop_and_lore_lines(self):
        desk = Desk()
        states = []
        for line in (
            f"lore x {text_of(TWO)}", f"lore y {text_of(LOOP)}", "drop x", f"lore x {text_of(FOUR)}", f"lore y {text_of(ONE)}",
            "drop y", "drop x", f"lore x {text_of(TWO)}",
        ):
            states.append(self.shown(desk))
            self.assertEqual(desk.tell(line), "ok")
            for other in ("names", "picks z", "drop z", "undoing"):
                try:
                    desk.tell(other)
                except LoreError:
                    pass
            self.assertEqual(desk.undoable(), len(states))
        for state in states[::-1]:
            self.assertEqual(desk.tell("undo"), "ok")
            self.assertEqual(self.shown(desk), state)
        self.check_refused(desk, NothingDone, "undo")
        desk.tell(f"lore x {text_of(TWO)}")
        self.assertEqual((desk.undoable(), type(desk.undoable())), (1, int))

    def test_two_desks(self):
        one, other = self.desk(x=TWO), self.desk()
        self.assertEqual((one.tell("names"), other.tell("names")), ("x", "none"))
        self.assertFalse(one == other)
        for thing in odd_things():
            self.assertFalse(one == thing)


class Refused(Checks):
    def test_no_form(self):
        desk = self.desk(x=TWO)
        for line in [thing for thing in odd_things() if not isinstance(thing, str)] + [
            "", " ", "x", "lore", "lore ", "lore x", "lore x ", f"lore X {text_of(LOOP)}", f"lore abcdefghi {text_of(LOOP)}",
            f"lore  x {text_of(LOOP)}", f" lore x {text_of(LOOP)}", f"lore x1 {text_of(LOOP)}", f"lore\tx {text_of(LOOP)}",
            "lore x " + lore_text(LOOP), "lore x sign a 0|\n", "Lore x sign a 0|", "lores x sign a 0|",
            "drop", "drop ", "drop x ", "drop  x", " drop x", "drop x y", "drop X", "drop abcdefghi", "drop 1", "drop x\n", "\ndrop x",
            "names ", " names", "names x", "Names", "names\n", "show", "show ", "show x x", "show  x", "show 0", "undo ", " undo",
            "undo x", "undo 1", "undo\n", "equal", "equal x", "equal x a", "equal x a ", "equal x a b ", "equal x a  b",
            "equal x  a b", "equal  x a b", "equal x a b a", "equal X a b", "equal x a\nb", "equal x a b\n", "worth", "worth x x",
            "worth ", "worth  x", "picks", "picks x 0", "picks X", "picks x ", "book", "book x", "book x ", "book x a", "book x 00",
            "book x 01", "book x -1", "book x 1234567890", "book x 0 0", "book x 0 ", "book x  0", "book  x 0", "book 0 x", "book x +1",
            "book x 1.0", "answer", "answer x", "answer x 0", "answer x 0 ", "answer x a 0", "answer x 00 a", "answer x 0 a ",
            "answer x 0  a", "answer x 0 a b", "answer x 0000000001 a", "wrong", "wrong x 0", "wrong x 0 ", "wrong x 0 a a",
            "wrong x 00 a", "wrong x  0 a", "wrong x 0\ta", "fall", "fall ", "fall x 2", "fall  x", "share", "share x", "share x ",
            "share x 02", "share x 1234567890", "share x a", "share x 2 ", "share x 2 3", "share x 1/2", "undoable", "tell names",
            "lore x\n", "book two 0\n",
        ]:
            self.check_refused(desk, NoForm, line)

    def test_words_of_each_kind(self):
        desk = self.desk(x=TWO)
        forms = ["drop NAME", "show NAME", "equal NAME a b", "worth NAME", "picks NAME", "book NAME NUMBER", "fall NAME",
                 "answer NAME NUMBER a", "wrong NAME NUMBER a", "share NAME NUMBER", f"lore NAME {text_of(LOOP)}"]
        for form in forms:
            for name in ("X", "x1", "abcdefghi", "x-y", "", "1", "xX", "a_b", "x\t"):
                self.check_refused(desk, NoForm, form.replace("NAME", name).replace("NUMBER", "1"))
            if not form.startswith("lore"):
                self.check_refused(desk, NoName, form.replace("NAME", "abcdefgh").replace("NUMBER", "1"), name="abcdefgh")
            if "NUMBER" in form:
                for number in ("00", "01", "-1", "1234567890", "0000000001", "a", "", "1a", "1.5", "+1", "1_0", "\t1", "0x1"):
                    self.check_refused(desk, NoForm, form.replace("NAME", "x").replace("NUMBER", number))
                self.check_refused(desk, NoName, form.replace("NAME", "y").replace("NUMBER", "999999999"), name="y")

    def test_what_read_lore_raises(self):
        desk = self.desk(x=TWO)
        for text, place in (
            ("x", 1), (" ", 1), ("|", 1), ("sign a 0", 1), ("sign a 0||", 2), ("sign a 0|a = b|", 2), ("sign a 0|a = a", 2),
            (" sign a 0|", 1), ("sign a 0| a = a|", 2), ("sign a 0|sign a 0|", 2), ("sign a 0|a = a|sign b 0|", 3),
            ("sign a 0 |", 1), ("sign a 3|", 1), ("sign a 0|a  = a|", 2), ("sign a 0|\ta = a|", 2), ("sign a 0|a = a|b", 3),
        ):
            for name in ("x", "y"):
                self.check_refused(desk, BadText, f"lore {name} {text}", place=place)
        self.check_refused(desk, BadText, f"lore x  {text_of(LOOP)}", place=1)
        self.check_refused(desk, BadText, f"lore {text_of(LOOP)}", place=1)
        self.check_refused(desk, BadLore, "lore x sign b 0|sign a 0|", part="signs")
        self.check_refused(desk, BadLore, "lore y sign f 1|", part="signs")
        self.check_refused(desk, BadLore, "lore y sign a 0|" + "a = a|" * 25, part="lines")
        self.check_refused(desk, BadLore, "lore x sign a 0|sign f 1|" + "".join(
            f"{'f(' * k}a{')' * k} = a|" for k in (29, 30, 60)), part="terms")

    def test_no_name(self):
        desk = self.desk(x=TWO)
        for line in ("drop y", "show y", "equal y a b", "worth y", "picks y", "book y 0", "answer y 0 a", "wrong y 0 a", "fall y",
                     "share y 1", "equal y q q", "answer y 9 q", "share y 0", "book y 999999999"):
            self.check_refused(desk, NoName, line, name="y")
        desk.tell("drop x")
        self.check_refused(desk, NoName, "drop x", name="x")
        self.check_refused(desk, NoName, "show abcdefgh", name="abcdefgh")

    def test_bad_terms(self):
        desk = self.desk(x=TWO, great=layers(12), free=free_signs(10))
        for text, place in (("q", 1), ("f", 2), ("f(", 3), ("f(a", 4), ("f(a))", 5), ("a|", 2), ("a=b", 2), ("f(a,b)", 4), ("(", 1)):
            self.check_refused(desk, BadText, f"equal x {text} a", place=place)
            self.check_refused(desk, BadText, f"equal x a {text}", place=place)
            self.check_refused(desk, BadText, f"equal x {text} qqq(", place=place)
            for number in (0, 3, 999999999):
                self.check_refused(desk, BadText, f"answer x {number} {text}", place=place)
                self.check_refused(desk, BadText, f"wrong x {number} {text}", place=place)
        self.check_refused(desk, BadText, "wrong great 0 q", place=1)
        self.check_refused(desk, BadText, "equal x f(q) q", place=3)

    def test_what_the_functions_raise(self):
        desk = self.desk(x=TWO, great=layers(12), free=free_signs(10), doubled=doublings([A], 9))
        for number in (3, 10, 999999999):
            self.check_refused(desk, NoNumber, f"book x {number}")
            self.check_refused(desk, NoNumber, f"answer x {number} a")
            self.check_refused(desk, NoNumber, f"wrong x {number} a")
        self.check_refused(desk, NoNumber, "share x 0")
        self.check_refused(desk, NoNumber, "share free 0")
        for line in ("picks great", "book great 0", "answer great 0 a", "wrong great 0 a", "book great 999999999"):
            self.check_refused(desk, TooMany, line, most=11)
        for line in ("fall free", "share free 2", "fall great", "share great 1"):
            self.check_refused(desk, TooMany, line, most=9)
        lore = doublings([A], 9)
        self.assertEqual(pick_at(lore, 511), greatest_pick(lore))
        self.check_refused(desk, TooMany, "book doubled 511", most=2000)
        self.check_refused(desk, TooMany, "answer doubled 511 a", most=2000)
        self.assertEqual(desk.tell("wrong doubled 511 j"), "1")
        self.assertEqual(desk.tell("picks doubled"), "512")

    def test_terms_with_many_signs(self):
        lore = Lore(WIDE, ((A, chain("f", 3, A)),))
        desk = self.desk(x=lore)
        text = term_text(lore, chain("g", 29, A))
        self.assertEqual(desk.tell(f"answer x 0 {text}"), text)
        self.assertEqual(desk.tell("answer x 0 " + "f(" * 29 + "a" + ")" * 29), "f(f(a))")
        self.assertEqual(desk.tell("wrong x 0 " + "f(" * 28 + "a" + ")" * 28), "9")


if __name__ == "__main__":
    unittest.main()
