"""Points 6, 7 and 9: forms, the sayings made of them, and what is in them."""

import random
import unittest

import oracle
from boxfall.errors import BadForm
from boxfall.sayings import Saying, act, letter, no, yes

NO_FORMS = (None, True, False, 0, 1, -1, 2.5, "", "yes", "no", "p", "letter", b"yes", {}, {"yes": 1},
            {0: "yes"}, set(), {"yes"}, (), [], object(), tuple, iter(("yes",)), yes(),
            (None,), (1,), (True,), ((),), (("yes",),), [["yes"]], ({},), ([],), (b"yes",), ("",),
            ("Yes",), ("yes ",), ("maybe",), ("p",), ("~", ("yes",)), ("#", ("yes",)),
            ("me", "him"), ("&", ("yes",), ("no",)), ("xor", ("yes",), ("no",)), ("x",))
WRONG_COUNTS = (("yes", "yes"), ("no", ()), ("yes", ("yes",)), ("letter",), ("letter", "p", "q"),
                ("act",), ("act", "me"), ("act", "me", "him", "me"), ("not",),
                ("not", ("yes",), ("no",)), ("box",), ("box", ("yes",), ("no",)), ("and",),
                ("and", ("yes",)), ("and", ("yes",), ("no",), ("yes",)), ("or",), ("or", ("yes",)),
                ("or", ("yes",), ("no",), ("yes",)), ("if",), ("if", ("yes",)),
                ("if", ("yes",), ("no",), ("yes",)))
NO_WORDS = ("", "abcdefghi", "a" * 1000, "P", "pP", "Bob", "p1", "1", "p q", " p", "p ", "p\n", "p-q",
            "p_q", "#p", "~", "p.", "\u00e9", "\u00df", "p\u00e9", "\u03b1", "\uff50", "`", "{", "p{",
            None, True, False, 0, 7, 1.5, b"p", (), ("p",), ["p"], [], {}, {"p"}, object(),
            ("letter", "p"), yes())
WORDS = ("a", "z", "p", "bob", "azazazaz", "abcdefgh", "and", "or", "if", "not", "box", "letter", "act",
         "yess", "nono", "mee", "hi", "he", "her", "xx", "xy", "m", "n", "y", "meme")


class WithPaths(unittest.TestCase):
    def check(self, path, make, *told):
        with self.assertRaises(BadForm) as caught:
            make(*told)
        self.assertIs(type(caught.exception), BadForm)
        self.assertEqual(caught.exception.path, path)
        self.assertIsInstance(caught.exception.path, tuple)


class NoForms(WithPaths):
    def test_whole(self):
        for thing in NO_FORMS + WRONG_COUNTS:
            self.check((), Saying, thing)

    def test_wrong_counts_of_lists(self):
        for thing in WRONG_COUNTS:
            self.check((), Saying, list(thing))

    def test_in_each_place(self):
        for thing in NO_FORMS + WRONG_COUNTS:
            for word in ("not", "box"):
                self.check((1,), Saying, (word, thing))
                self.check((1,), Saying, [word, thing])
            for word in ("and", "or", "if"):
                self.check((1,), Saying, (word, thing, ("yes",)))
                self.check((2,), Saying, (word, ("yes",), thing))
                self.check((1,), Saying, (word, thing, thing))
                self.check((), Saying, (word, thing))

    def test_letters(self):
        for word in NO_WORDS + ("yes", "no", "me", "him", "x"):
            self.check((1,), Saying, ("letter", word))
            self.check((1,), Saying, ["letter", word])
            self.check((1,), letter, word)
            self.check((2, 1, 1), Saying, ("and", ("yes",), ("box", ("letter", word))))

    def test_acts(self):
        for word in NO_WORDS + ("yes", "no", "x"):
            self.check((1,), Saying, ("act", word, "me"))
            self.check((2,), Saying, ("act", "him", word))
            self.check((1,), Saying, ("act", word, word))
            self.check((1,), act, word, "bob")
            self.check((2,), act, "bob", word)
            self.check((1,), act, word, word)
            self.check((1, 2), Saying, ("not", ("act", "me", word)))

    def test_depth_first(self):
        wrong = ("letter", "P")
        self.check((1, 1), Saying, ("and", wrong, ("foo",)))
        self.check((1, 1), Saying, ("and", wrong, 5))
        self.check((1, 1), Saying, ("and", ("not", 5), 7))
        self.check((1,), Saying, ("or", ("not",), wrong))
        self.check((2, 1, 1, 2), Saying, ("or", ("yes",), ("if", ("box", ("act", "me", 1)), wrong)))
        self.check((1, 2, 1), Saying, ("if", ("and", ("yes",), wrong), wrong))
        self.check((), Saying, ("if", wrong, wrong, wrong))

    def test_the_outer_one_ahead_of_what_is_in_it(self):
        self.check((), Saying, ("maybe", ("letter", "P")))
        self.check((1,), Saying, ("not", ("and", ("letter", "P"))))

    def test_deep_inside(self):
        thing = ("letter", "yes")
        for depth in range(40):
            self.check((1,) * depth + (1,), Saying, thing)
            thing = ("box", thing)
        thing = None
        for depth in range(40):
            self.check((2,) * depth, Saying, thing)
            thing = ["or", ("no",), thing]

    def test_drawn(self):
        source = random.Random(6)
        broken = NO_FORMS + WRONG_COUNTS + (("letter", "x"), ("act", "me", "x"), ("act", 1, "me"))
        for _ in range(3000):
            form = oracle.drawn(source, source.randint(1, 20), oracle.LEAVES)
            for _ in range(source.randint(1, 3)):
                form = replaced(source, form, source.choice(broken))
            path = oracle.wrong_path(form)
            self.assertIsNotNone(path)
            self.check(path, Saying, form)


def replaced(source, form, thing):
    """The form with something else in the place of one of its forms, as it may come."""
    if not isinstance(form, tuple) or source.random() < 0.15:
        return thing
    places = [at for at in range(len(form)) if isinstance(form[at], tuple)]
    if not places:
        return thing
    at = source.choice(places)
    return form[:at] + (replaced(source, form[at], thing),) + form[at + 1:]


class Forms(unittest.TestCase):
    def test_each_kind(self):
        for form in (("yes",), ("no",), ("letter", "p"), ("act", "me", "him"), ("act", "him", "him"),
                     ("act", "bob", "amy"), ("act", "me", "bob"), ("not", ("yes",)),
                     ("and", ("yes",), ("no",)), ("or", ("yes",), ("no",)),
                     ("if", ("yes",), ("no",)), ("box", ("no",))):
            self.assertEqual(Saying(form).form(), form)
            self.assertEqual(Saying(list(form)).form(), form)

    def test_words(self):
        for word in WORDS:
            self.assertEqual(Saying(("letter", word)).form(), ("letter", word))
            self.assertEqual(letter(word).form(), ("letter", word))
        for word in WORDS + ("me", "him"):
            self.assertEqual(act(word, "me").form(), ("act", word, "me"))
            self.assertEqual(act("bob", word).form(), ("act", "bob", word))

    def test_all_small_forms(self):
        for form in oracle.forms(4, oracle.LEAVES[1:5]):
            saying = Saying(form)
            self.assertEqual(saying.form(), form)
            self.assertEqual(len(saying), len(oracle.signs_of(form)))

    def test_tuples_throughout(self):
        def as_lists(form):
            return [as_lists(item) if isinstance(item, tuple) else item for item in form]
        source = random.Random(7)
        for _ in range(300):
            form = oracle.drawn(source, source.randint(1, 60), oracle.LEAVES)
            saying = Saying(as_lists(form))
            self.assertEqual(saying.form(), form)
            self.assertEqual(saying, Saying(form))
            self.assertEqual(len(saying), len(oracle.signs_of(form)))

    def test_depth_of_the_limit(self):
        form = ("letter", "p")
        for length in range(1, 61):
            self.assertEqual(len(Saying(form)), length)
            form = ("box", form)


class Making(unittest.TestCase):
    def test_constants(self):
        self.assertEqual(yes().form(), ("yes",))
        self.assertEqual(no().form(), ("no",))
        self.assertIsInstance(yes(), Saying)
        self.assertIsInstance(no(), Saying)

    def test_letter_and_act(self):
        self.assertIsInstance(letter("p"), Saying)
        self.assertIsInstance(act("me", "him"), Saying)
        self.assertEqual(act("me", "him").form(), ("act", "me", "him"))
        self.assertEqual(act("him", "me").form(), ("act", "him", "me"))

    def test_operators(self):
        one, other = letter("p"), +act("me", "him")
        p, box = ("letter", "p"), ("box", ("act", "me", "him"))
        self.assertEqual((~one).form(), ("not", p))
        self.assertEqual((+one).form(), ("box", p))
        self.assertEqual((one & other).form(), ("and", p, box))
        self.assertEqual((one | other).form(), ("or", p, box))
        self.assertEqual((one >> other).form(), ("if", p, box))
        self.assertEqual((other >> one).form(), ("if", box, p))
        self.assertEqual((other & one).form(), ("and", box, p))
        self.assertEqual((other | one).form(), ("or", box, p))
        self.assertEqual((one & one).form(), ("and", p, p))
        self.assertEqual((~~one).form(), ("not", ("not", p)))
        self.assertEqual((++one).form(), ("box", ("box", p)))
        for made in (~one, +one, one & other, one | other, one >> other):
            self.assertIsInstance(made, Saying)

    def test_operands_stay(self):
        one, other = letter("p"), letter("q")
        for made in (~one, +one, one & other, one | other, one >> other):
            self.assertGreater(len(made), 1)
            self.assertEqual(one.form(), ("letter", "p"))
            self.assertEqual(other.form(), ("letter", "q"))
            self.assertEqual((len(one), len(other)), (1, 1))
        kept = one
        one &= other
        self.assertEqual((kept.text(), one.text(), other.text()), ("p", "(p & q)", "q"))

    def test_lengths(self):
        one, other = letter("p"), act("me", "him")
        for made, length in ((yes(), 1), (no(), 1), (one, 1), (other, 1), (~one, 2), (+one, 2),
                             (one & other, 3), (one | other, 3), (one >> other, 3), (one & one, 3),
                             (~(one & one) >> +(one & one), 9)):
            self.assertEqual(len(made), length)


class AlwaysEqual:
    def __eq__(self, other):
        return True


class Equality(unittest.TestCase):
    def test_just_if_the_forms_are(self):
        forms = oracle.forms(3, oracle.LEAVES[:5])
        sayings = [Saying(form) for form in forms]
        for form, saying in zip(forms, sayings):
            for other_form, other in zip(forms, sayings):
                self.assertIs(saying == other, form == other_form)
                self.assertIs(saying != other, form != other_form)

    def test_unlike(self):
        p, q = letter("p"), letter("q")
        for one, other in ((p & q, q & p), (p & q, p | q), (p >> q, ~p | q), (~~p, p), (p & p, p),
                           (act("me", "him"), act("him", "me")), (yes(), ~no()), (p, letter("pp"))):
            self.assertFalse(one == other)
            self.assertTrue(one != other)

    def test_nothing_else(self):
        for saying in (yes(), letter("p"), +letter("p")):
            for thing in (saying.form(), list(saying.form()), saying.text(), None, True, False, 0, 1,
                          len(saying), (), [], {}, object(), Saying, AlwaysEqual()):
                self.assertIs(saying == thing, False)
                self.assertIs(saying != thing, True)

    def test_made_in_other_ways(self):
        made = +(+letter("p") >> letter("p")) >> +letter("p")
        self.assertEqual(made, Saying.read("(#(#p > p) > #p)"))
        self.assertEqual(made, Saying(made.form()))
        self.assertEqual(act("bob", "me"), Saying(["act", "bob", "me"]))


class Contents(unittest.TestCase):
    def test_letters(self):
        for text, told in (("yes", []), ("me-him", []), ("p", ["p"]), ("(q & (p | q))", ["p", "q"]),
                           ("(#zz > (#~a & ~#zz))", ["a", "zz"]), ("(b & (ab & (a & aa)))",
                                                                   ["a", "aa", "ab", "b"]),
                           ("(bob-me & p)", ["p"]), ("((letter & act) & yes)", ["act", "letter"])):
            self.assertEqual(Saying.read(text).letters(), told)

    def test_acts(self):
        for text, told in (("p", []), ("me-him", [("me", "him")]), ("(me-him & #me-him)", [("me", "him")]),
                           ("(me-him & #him-me)", [("him", "me"), ("me", "him")]),
                           ("#(bob-zed & (bob-amy & (amy-zed & bob-amy)))",
                            [("amy", "zed"), ("bob", "amy"), ("bob", "zed")]),
                           ("(me-me | (him-him | (p-q | q)))", [("him", "him"), ("me", "me"), ("p", "q")])):
            self.assertEqual(Saying.read(text).acts(), told)
            self.assertTrue(all(type(pair) is tuple for pair in Saying.read(text).acts()))

    def test_boxes(self):
        for text, told in (("p", []), ("#p", ["#p"]), ("##p", ["##p", "#p"]), ("(#q & #p)", ["#p", "#q"]),
                           ("(#p & #p)", ["#p"]), ("(##p | #(p & q))", ["##p", "#(p & q)", "#p"]),
                           ("(#~p & (#p > #(#p > yes)))", ["#(#p > yes)", "#p", "#~p"]),
                           ("(#zz & (#b & #~a))", ["#b", "#zz", "#~a"]),
                           ("~#~#~#no", ["#no", "#~#no", "#~#~#no"]),
                           ("(#me-him & #(p | q))", ["#(p | q)", "#me-him"])):
            boxes = Saying.read(text).boxes()
            self.assertEqual([box.text() for box in boxes], told)
            self.assertTrue(all(isinstance(box, Saying) for box in boxes))
            self.assertEqual(boxes, [Saying.read(box) for box in told])

    def test_drawn(self):
        source = random.Random(9)
        for _ in range(1500):
            form = oracle.drawn(source, source.randint(1, 40), oracle.LEAVES)
            saying = Saying(form)
            signs = oracle.signs_of(form)
            self.assertEqual(saying.letters(), sorted({sign[1] for sign in signs if sign[0] == "letter"}))
            self.assertEqual(saying.acts(), sorted({sign[1:] for sign in signs if sign[0] == "act"}))
            boxes = sorted(oracle.boxes_of(form), key=oracle.text_of)
            self.assertEqual([box.form() for box in saying.boxes()], boxes)
            self.assertIs(saying.is_boxed(), oracle_is_boxed(form))

    def test_is_boxed(self):
        for text in ("yes", "no", "#p", "##p", "#me-him", "~#~him-me", "(#p & #me-him)", "(yes > no)",
                     "#(p & me-him)", "((#p | no) > ~(yes & #q))"):
            self.assertIs(Saying.read(text).is_boxed(), True, text)
        for text in ("p", "me-him", "~p", "~me-him", "(p & #p)", "(#p & p)", "(#me-him | me-him)",
                     "(yes > (no & bob-amy))", "(#p & (#q > ~q))", "~~~(#p | p)"):
            self.assertIs(Saying.read(text).is_boxed(), False, text)


def oracle_is_boxed(form):
    if form[0] in ("letter", "act"):
        return False
    return form[0] == "box" or all(oracle_is_boxed(item) for item in form[1:])


if __name__ == "__main__":
    unittest.main()
