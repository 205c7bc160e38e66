"""Promises 14.1 and 14.2: journals, read back or recovered."""

import unittest
from random import Random

from neatbooks.errors import BadDeed, BadLore, BadText, LoreError
from neatbooks.journals import read_journal, recovered
from neatbooks.live import Live
from tests.samples import A, B, FOUR, LOOP, TWO, WIDE, chain, f, odd_things, row_of_signs, some_term
from tests.test_live import doubling, shown

HEAD = "sign a 0\nsign b 0\nsign f 1\n"
TEXT = HEAD + (
    "tell f(a) = b\nwish f(a)\nwatch f(f(a))\ntell f(b) = a\nunwish 0\nwish f(b)\nwatch b\ndrop 0\nwish b\n")


def some_live(random, signs, many):
    """A live lore with deeds that are drawn, some of which are taken back."""
    live = Live(signs)
    for _ in range(many):
        term = some_term(random, signs, 3)
        deeds = [lambda: live.tell((term, some_term(random, signs, 2))), lambda: live.wish(term), live.back,
                 lambda: live.watch(term), lambda: live.drop(0), lambda: live.unwish(len(live.wishes()) - 1)]
        try:
            random.choice([deeds[0]] * 3 + deeds)()
        except LoreError:
            pass
    return live


def slow_recovered(text):
    """The pair of what the longest beginning of whole lines tells that is let, and of how many lines that are."""
    rows = text.split("\n")[:-1]
    for many in range(len(rows), -1, -1):
        try:
            return shown(read_journal("".join(row + "\n" for row in rows[:many]))), many
        except LoreError:
            pass
    return None


class Checks(unittest.TestCase):
    def check_bad_text(self, place, text):
        with self.assertRaises(BadText) as caught:
            read_journal(text)
        self.assertEqual(caught.exception.place, place, text)

    def check_bad_deed(self, line, text):
        with self.assertRaises(BadDeed) as caught:
            read_journal(text)
        self.assertEqual(caught.exception.line, line, text)

    def check_bad_signs(self, call, text):
        with self.assertRaises(BadLore) as caught:
            call(text)
        self.assertEqual(caught.exception.part, "signs")

    def check_recovered(self, text):
        expected = slow_recovered(text)
        if expected is None:
            self.check_bad_signs(recovered, text)
            return
        found = recovered(text)
        self.assertEqual([type(found), len(found), type(found[0]), type(found[1])], [tuple, 2, Live, int])
        self.assertEqual((shown(found[0]), found[1]), expected, text)


class ReadJournal(Checks):
    def test_word_by_word(self):
        live = read_journal(TEXT)
        self.assertIs(type(live), Live)
        other = Live(TWO.signs)
        other.tell((f(A), B))
        other.wish(f(A))
        other.watch(f(f(A)))
        other.tell((f(B), A))
        other.unwish(0)
        other.wish(f(B))
        other.watch(B)
        other.drop(0)
        other.wish(B)
        self.assertEqual(shown(live), shown(other))
        self.assertEqual(live.journal(), TEXT)
        while other.deeds():
            live.back()
            other.back()
            self.assertEqual(shown(live), shown(other))
        self.assertEqual(live.journal(), HEAD)

    def test_there_and_back(self):
        random = Random(17)
        for number in range(60):
            live = some_live(random, [TWO.signs, FOUR.signs, WIDE, LOOP.signs][number % 4], number % 13)
            self.assertEqual(shown(read_journal(live.journal())), shown(live))
            self.assertEqual(shown(recovered(live.journal())[0]), shown(live))
            self.assertEqual(recovered(live.journal())[1], live.journal().count("\n"))

    def test_signs_alone(self):
        for signs in (LOOP.signs, WIDE, row_of_signs(11, True).signs):
            text = Live(signs).journal()
            self.assertEqual(shown(read_journal(text)), shown(Live(signs)))

    def test_no_string(self):
        for thing in odd_things():
            if not isinstance(thing, str):
                self.check_bad_text(0, thing)
                with self.assertRaises(BadText) as caught:
                    recovered(thing)
                self.assertEqual(caught.exception.place, 0)

    def test_bad_signs(self):
        for text in (
            "", "sign f 1\n", "sign b 0\nsign a 0\n", "sign b 0\nsign a 0\nwish a\n", "sign f 1\nsign a 0\n",
            "".join(f"sign {name} 0\n" for name in "abcdefghijklm"), "drop 0\n", "sign f 2\ndrop 0\nunwish 7\n",
        ):
            self.check_bad_signs(read_journal, text)

    def test_each_form_spoiled(self):
        for row in (
            "", " ", "tell", "tell ", "tell a", "tell a =", "tell a = ", "tell a b", "tell a  = b", "tell  a = b",
            "tell a = b ", " tell a = b", "tell a=b", "tell a = c", "tell a = f", "tell f(a = b", "tell a = b = a",
            "tell a == b", "Tell a = b", "a = b", "tell\ta = b", "tell a = b\t", "tell a, b", "wish", "wish ", "wish c",
            "wish a b", "wish  a", "wish a ", " wish a", "wish f", "wish f(a,b)", "wish f()", "wish (a)", "wish 0", "WISH a",
            "watch", "watch ", "watch c", "watch a a", "watch  a", "watch a ", "watch f(f(a)", "watching a", "watch 1",
            "drop", "drop ", "drop a", "drop -1", "drop 00", "drop 01", "drop 1234567890", "drop +1", "drop 1 ", "drop  1",
            "drop 1.0", "drop 1 2", "drop 0x1", "drop 1_0", "unwish", "unwish ", "unwish 00", "unwish 0000000001",
            "unwish 1234567890", "unwish b", "unwish 0 ", "back", "copy", "deeds", "sign", "sign a", "sign a 0",
            "sign c 3", "sign c 00", "sign c", "sign C 0", "sign abcdefghi 0", "sign c 0 0", "sign  c 0", "signs c 0", "sign c -1",
            "tell sign = a", "lore a", "wish a = b", "drop a = b", "tell a", "watch 0", "undo",
        ):
            for number in (0, 3, 9):
                rows = TEXT.split("\n")[:-1]
                rows.insert(3 + number, row)
                self.check_bad_text(4 + number, "".join(part + "\n" for part in rows))
        self.check_bad_text(1, "\n")
        self.check_bad_text(1, "\n" + TEXT)
        self.check_bad_text(13, TEXT + "\n")

    def test_a_sign_behind_a_deed(self):
        for row in ("sign c 0", "sign g 1", "sign h 2"):
            self.check_bad_text(13, TEXT + row + "\n")
            self.check_bad_text(5, HEAD + "wish a\n" + row + "\nwish a\n")
        self.check_bad_text(3, "sign a 0\nsign b 0\nsign a 0\n")
        self.check_bad_text(2, "sign a 0\nwish b\nsign b 0\n")

    def test_something_behind_the_last_line_feed(self):
        for rest in ("w", "wish", "wish a", "drop 0", "sign", " ", "\t", "sign c 0"):
            self.check_bad_text(13, TEXT + rest)
        self.check_bad_text(1, "sign a 0")
        self.check_bad_text(1, "a")
        self.check_bad_text(4, HEAD[:-1] + "\n ")
        self.check_bad_text(3, HEAD[:-1])

    def test_numbers(self):
        for number in ("0", "7", "10", "999999999", "100000000"):
            self.check_bad_deed(4, HEAD + f"drop {number}\n")
            self.check_bad_deed(5, HEAD + f"wish a\nunwish {number if number != '0' else '1'}\n")
        self.assertEqual(read_journal(HEAD + "wish a\nunwish 0\n").deeds(), 2)
        text = HEAD + "wish a\n" * 12 + "unwish 11\nunwish 10\nunwish 10\n"
        self.check_bad_deed(18, text)
        self.assertEqual(read_journal(text[:-10]).deeds(), 14)

    def test_bad_text_ahead_of_the_others(self):
        self.check_bad_text(3, "sign b 0\nsign a 0\nwish c\n")
        self.check_bad_text(5, HEAD + "drop 0\nwish c\n")
        self.check_bad_text(5, HEAD + "drop 0\nwish a")
        self.check_bad_signs(read_journal, "sign b 0\nsign a 0\ndrop 0\n")

    def test_bad_deeds(self):
        self.check_bad_deed(5, HEAD + "wish a\ndrop 0\nunwish 5\n")
        self.check_bad_deed(4, HEAD + "unwish 0\n")
        self.check_bad_deed(6, HEAD + "tell a = b\ndrop 0\ndrop 0\n")
        self.check_bad_deed(3 + 13, HEAD + "wish a\n" * 13)
        self.check_bad_deed(3 + 21, HEAD + "watch a\n" * 21)
        self.check_bad_deed(3 + 25, HEAD + "tell a = b\n" * 26)
        self.check_bad_deed(3 + 3, HEAD + "".join(f"tell {'f(' * k}a{')' * k} = {'f(' * k}b{')' * k}\n" for k in (
            28, 29, 30)))
        live, lines = doubling(("a", "tb", "tc", "td", "te", "tf", "tg", "th", "ti", "tj"), 9)
        rows = "".join(f"tell {one[0]} = t({part[1][0]},{part[2][0]})\n" for one, part in lines)
        self.check_bad_deed(11 + 9, live.journal() + rows)
        self.assertEqual(recovered(live.journal() + rows)[1], 11 + 8)

    def test_a_journal_with_many_deeds(self):
        text = HEAD + "wish a\nunwish 0\n" * 300
        self.assertEqual(read_journal(text).deeds(), 600)
        self.assertEqual(read_journal(text).journal(), text)
        self.assertEqual(recovered(text + "unwish 0\n")[1], 603)


class Recovered(Checks):
    def test_cut_off_at_each_place(self):
        for end in range(len(TEXT) + 1):
            self.check_recovered(TEXT[:end])
        self.assertEqual(recovered(TEXT[:-1])[1], 11)
        self.assertEqual(recovered(TEXT)[1], 12)
        self.assertEqual(recovered("sign a 0\nsign b 0\nsign f 1")[1], 2)

    def test_spoiled_at_each_place(self):
        for at in range(0, len(TEXT), 2):
            for letter in ("\n", "", "z", " ", "0"):
                self.check_recovered(TEXT[:at] + letter + TEXT[at + 1:])

    def test_lines_left_out_or_exchanged(self):
        rows = TEXT.split("\n")[:-1]
        for at in range(len(rows)):
            for other in range(len(rows)):
                changed = list(rows)
                changed[at] = rows[other]
                self.check_recovered("".join(row + "\n" for row in changed))
            self.check_recovered("".join(row + "\n" for row in rows[:at] + rows[at + 1:]))

    def test_signs_of_which_a_beginning_is_let(self):
        for text, many in (
            ("sign b 0\nsign a 0\n", 1), ("sign b 0\nsign a 0\nsign c 0\n", 1), ("sign b 0\nsign a 0\nsign aa 0\nsign c 0\n", 1),
            ("sign b 0\nsign c 0\nsign a 0\nwish b\n", 2), ("sign b 0\nsign b 0\n", 1),
            ("".join(f"sign {name} 0\n" for name in "abcdefghijklm") + "wish a\n", 12), ("sign f 1\nsign g 0\nsign a 0\n", 2),
            ("sign b 0\nsign a 0\ndrop 0\nwish c\n", 1), ("sign a 0\nsign b 3\nsign c 0\n", 1),
            ("sign a 0\nwish b\nsign b 0\n", 1), ("sign a 0\nwish a\nsign b 0\nwish a\n", 2), ("sign a 0\n\n", 1),
        ):
            self.check_recovered(text)
            self.assertEqual(recovered(text)[1], many)

    def test_no_beginning_is_let(self):
        for text in ("", "\n", "sign a 0", "sign f 1\n", "sign f 1\nsign a 0\n", "wish a\n", "x", "drop 0\nsign a 0\n",
                     "sign f 1\nsign g 2\n", "sign a 3\nsign a 0\n"):
            self.assertIs(slow_recovered(text), None)
            self.check_bad_signs(recovered, text)

    def test_up_to_the_first_deed_that_is_refused(self):
        self.assertEqual(recovered(HEAD + "wish a\ndrop 0\nwish b\n")[1], 4)
        self.assertEqual(recovered(HEAD + "unwish 0\n")[1], 3)
        live, many = recovered(HEAD + "tell a = b\n" * 30)
        self.assertEqual((live.deeds(), many), (24, 27))
        live.back()
        live.tell((A, chain("f", 4, B)))
        self.assertEqual(live.deeds(), 24)

    def test_equal_calls_give_equal_answers(self):
        one, other = recovered(TEXT + "x"), recovered(TEXT + "x")
        self.assertIsNot(one[0], other[0])
        one[0].back()
        self.assertEqual(shown(other[0]), shown(read_journal(TEXT)))
        self.assertEqual(recovered(TEXT + "x")[1], one[1])


if __name__ == "__main__":
    unittest.main()
