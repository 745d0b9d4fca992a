"""Point 8: the texts of sayings, written and read."""

import itertools
import random
import unittest

import oracle
from boxfall.errors import BadText
from boxfall.sayings import Saying, act, letter, no, yes

NO_TEXTS = ("", " ", "\n", "me", "him", "x", "~me", "#him", "(x & p)", "(p & me)", "Yes", "YES", "NO", "P",
            "pQ", "p1", "p_q", "p.", "p\n", "\np", "p\t", " p", "p ", "p q", "yes no", "abcdefghi", "a" * 5000,
            "yes-me", "me-yes", "no-him", "him-no", "x-me", "me-x", "x-x", "p-", "-p", "-", "--", "p--q",
            "p-q-r", "me -him", "me- him", "me - him", "abcdefghi-me", "me-abcdefghi", "me-Him", "Bob-me",
            "me_him", "~", "#", "~~", "#~", "~ p", "# p", "p~", "p#", "~p~", "p~q", "~~p ", "!p", "+p",
            "(", ")", "()", "(p)", "((p & q))", "(p & q", "p & q", "p & q)", "(p & q))", "((p & q)",
            "(p & q) ", " (p & q)", "(p & q)r", "r(p & q)", "(p & q)(p & q)", "(p & q) & r",
            "(p & q & r)", "(p & (q & r)", "((p & q) & r", "(p  & q)", "(p &  q)", "(p& q)", "(p &q)",
            "(p&q)", "( p & q)", "(p & q )", "(p\t& q)", "(p &\nq)", "(p && q)", "(p || q)", "(p >> q)",
            "(p - q)", "(p + q)", "(p = q)", "(p < q)", "(p , q)", "(p ~ q)", "(p # q)", "(p ) q)",
            "(p and q)", "(p or q)", "(p if q)", "( & q)", "(p & )", "( & )", "(&)", "& q", "p & ",
            ")p & q(", "[p & q]", "{p & q}", "(p & q]", "not p", "~(p)", "#(yes)", "(yes)", "~()",
            "\u00e9", "\u00df", "\uff50", "p\u00a0", "(p\u00a0& q)", "p\x00", "('p',)", "('letter', 'p')")


class Writing(unittest.TestCase):
    def test_each_kind(self):
        p, q = letter("p"), letter("q")
        for saying, text in ((yes(), "yes"), (no(), "no"), (p, "p"), (act("me", "him"), "me-him"),
                             (act("bob", "amy"), "bob-amy"), (~p, "~p"), (+p, "#p"), (p & q, "(p & q)"),
                             (p | q, "(p | q)"), (p >> q, "(p > q)"), (~+~act("him", "me"), "~#~him-me"),
                             (~(p & q), "~(p & q)"), ((p & q) >> ~(q | yes()), "((p & q) > ~(q | yes))"),
                             (letter("abcdefgh"), "abcdefgh"), (letter("letter"), "letter")):
            self.assertEqual(saying.text(), text)

    def test_all_small_forms(self):
        for form in oracle.forms(4, oracle.LEAVES[1:5]):
            self.assertEqual(Saying(form).text(), oracle.text_of(form))

    def test_drawn(self):
        source = random.Random(8)
        for _ in range(500):
            form = oracle.drawn(source, source.randint(1, 60), oracle.LEAVES)
            self.assertEqual(Saying(form).text(), oracle.text_of(form))


class Reading(unittest.TestCase):
    def check(self, text):
        """A text is read just if it is one by the oracle, and then comes back."""
        if oracle.is_text(text):
            self.assertEqual(Saying.read(text).text(), text)
        else:
            self.check_none(text)

    def check_none(self, text):
        with self.assertRaises(BadText, msg=repr(text)) as caught:
            Saying.read(text)
        self.assertIs(type(caught.exception), BadText)

    def test_each_kind(self):
        for text, form in (("yes", ("yes",)), ("no", ("no",)), ("p", ("letter", "p")),
                           ("me-him", ("act", "me", "him")), ("bob-amy", ("act", "bob", "amy")),
                           ("~p", ("not", ("letter", "p"))), ("#p", ("box", ("letter", "p"))),
                           ("(p & no)", ("and", ("letter", "p"), ("no",))),
                           ("(p | no)", ("or", ("letter", "p"), ("no",))),
                           ("(p > no)", ("if", ("letter", "p"), ("no",))),
                           ("~#p", ("not", ("box", ("letter", "p")))),
                           ("abcdefgh", ("letter", "abcdefgh")), ("yess", ("letter", "yess")),
                           ("box", ("letter", "box")), ("not-and", ("act", "not", "and")),
                           ("abcdefgh-zzzzzzzz", ("act", "abcdefgh", "zzzzzzzz"))):
            self.assertIsInstance(Saying.read(text), Saying)
            self.assertEqual(Saying.read(text).form(), form)

    def test_each_text_gives_an_equal_saying(self):
        for form in oracle.forms(4, oracle.LEAVES[1:5]):
            saying = Saying.read(oracle.text_of(form))
            self.assertEqual(saying.form(), form)
            self.assertEqual(saying, Saying(form))

    def test_drawn_texts(self):
        source = random.Random(10)
        for _ in range(500):
            form = oracle.drawn(source, source.randint(1, 60), oracle.LEAVES)
            self.assertEqual(Saying.read(Saying(form).text()), Saying(form))

    def test_long_texts(self):
        for sign in "~#":
            saying = Saying.read(sign * 200 + "p")
            self.assertEqual((len(saying), saying.text()), (201, sign * 200 + "p"))
        for text in ("p", "abcdefgh-abcdefgh"):
            left = right = text
            for _ in range(100):
                left = "(" + left + " & " + text + ")"
                right = "(" + text + " > " + right + ")"
            self.assertEqual(Saying.read(left).text(), left)
            self.assertEqual(Saying.read(right).text(), right)
            self.assertEqual((len(Saying.read(left)), len(Saying.read(right))), (201, 201))

    def test_told_no_texts(self):
        for text in NO_TEXTS:
            self.check_none(text)

    def test_long_no_texts(self):
        for text in ("p" * 4999, "p " * 2000, " & " * 1500, "-" * 5000, " " * 5000, "p-q" * 1500,
                     "me-him" * 800, "P" * 5000, "~" * 200, "#" * 200 + "me", "(" * 200, ")" * 200,
                     "(" * 100 + "p" + ")" * 100, "(p & " * 200, "p & " * 1200, "p" + " & q)" * 200,
                     "(p & q)" * 100, "yes" * 1600, "(p & q)" + " " * 4000, "yes" + "\n" * 4000,
                     "~" * 200 + "p" + " " * 4000, "p" + "~" * 200):
            self.check_none(text)

    def test_all_short_strings(self):
        for length in range(6):
            for signs in itertools.product("p-~#( &)", repeat=length):
                self.check("".join(signs))

    def test_strings_of_pieces(self):
        pieces = ("p", "yes", "me-him", "x", "~", "#", "(", ")", " & ", " > ")
        for length in range(5):
            for signs in itertools.product(pieces, repeat=length):
                self.check("".join(signs))
        for signs in itertools.product(pieces[:2], pieces, pieces[4:], pieces[:2]):
            self.check("(" + "".join(signs) + ")")

    def test_changed_texts(self):
        source = random.Random(11)
        for _ in range(120):
            text = oracle.text_of(oracle.drawn(source, source.randint(1, 12), oracle.LEAVES))
            for at in range(len(text) + 1):
                self.check(text[:at] + text[at + 1:])
                self.check(text[:at] + text[at + 1:at + 2] + text[at:at + 1] + text[at + 2:])
                for sign in "p-~#( &|>)A1\n":
                    self.check(text[:at] + sign + text[at:])
                    self.check(text[:at] + sign + text[at + 1:])

    def test_behind_the_end(self):
        for text in ("yes", "p", "me-him", "~p", "#p", "(p & q)", "(p > ~q)"):
            for more in (" ", "\n", ")", "(", " & p", "~", "-", "1", "()", " yes", "(p & q)"):
                self.check_none(text + more)


if __name__ == "__main__":
    unittest.main()
