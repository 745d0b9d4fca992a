"""Points 14 to 17: what holds always, breaches, lots and papers."""

import random
import unittest

import oracle
import search
from boxfall.always import Breach, alike, always, breach, follows, is_paper, reached
from boxfall.errors import NoActs
from boxfall.rows import row_of
from boxfall.sayings import Saying, act, letter, no, yes

T, F = True, False
read = Saying.read
# How many boxes a saying with so many letters may have for a search through all rows.
MOST_BOXES = {0: 9, 1: 6, 2: 4, 3: 3}
KNOWN = ("yes", "(p | ~p)", "(#(#p > p) > #p)", "(#(p > q) > (#p > #q))", "(#p > ##p)", "((#p & #q) > #(p & q))",
         "(#(p & q) > #p)", "(#~#p > #no)", "(#(p & q) > (#q & #p))", "(#no > #p)", "(##no > (#no | ##p))",
         "(~#no > ~#~#no)", "((#p | #q) > #(p | q))", "#(#p > #p)", "(#p | ~#p)",
         "(#(p > (#p > q)) > #(p > ##(p > p)))", "(#(#p > (p & q)) > #(p > p))", "(#(r > (q > p)) > (#r > (#q > #p)))")
FAILING = (("no", 0, {}), ("p", 0, {"p": (F,)}), ("~p", 0, {"p": (T,)}), ("#no", 1, {}), ("##no", 2, {}),
           ("~#no", 0, {}), ("#p", 1, {"p": (F, F)}), ("#~p", 1, {"p": (T, F)}), ("(#p > p)", 0, {"p": (F,)}),
           ("(p > #p)", 1, {"p": (F, T)}), ("(##p > #p)", 1, {"p": (F, F)}), ("(#p | #~p)", 2, {"p": (F, T, F)}),
           ("(#(p | q) > (#p | #q))", 2, {"p": (F, T, F), "q": (T, F, F)}),
           ("(p | ~q)", 0, {"p": (F,), "q": (T,)}), ("(q | ~p)", 0, {"p": (T,), "q": (F,)}),
           ("(#p > #q)", 1, {"p": (T, F), "q": (F, F)}), ("(#q > #p)", 1, {"p": (F, F), "q": (T, F)}),
           ("(#(p > #p) > #p)", 1, {"p": (F, F)}), ("(~#p | #q)", 1, {"p": (T, F), "q": (F, F)}),
           ("((#p & p) > (#q | q))", 1, {"p": (T, T), "q": (F, F)}), ("(#no | ##p)", 2, {"p": (F, F, F)}),
           ("(#no | (p & q))", 1, {"p": (F, F), "q": (F, F)}), ("(#no | ~(p & q))", 1, {"p": (F, T), "q": (F, T)}),
           ("(##no | (#p | #~p))", 2, {"p": (F, T, F)}))


def leaves(many):
    return (("no",), ("yes",)) + tuple(("letter", name) for name in "pqr"[:many])


def drawn_forms(seed, rounds, longest=20):
    """Drawn forms with no, one, two and three letters, with few enough boxes for a search."""
    source = random.Random(seed)
    for _ in range(rounds):
        many = source.randint(0, 3)
        form = oracle.drawn(source, source.randint(1, longest), leaves(many) + leaves(many)[2:] * 3)
        if len(oracle.boxes_of(form)) <= MOST_BOXES[len(search.letters_of(form))]:
            yield form


def told_of(found):
    return None if found is None else (found.level, found.rows)


class Breaches(unittest.TestCase):
    def test_told(self):
        for text, level, rows in FAILING:
            self.assertEqual(told_of(breach(read(text))), (level, rows), text)

    def test_none(self):
        for text in KNOWN:
            self.assertIsNone(breach(read(text)), text)

    def test_kinds(self):
        found = breach(read("(#p > q)"))
        self.assertIsInstance(found, Breach)
        self.assertIs(type(found.level), int)
        self.assertIs(type(found.rows), dict)
        for row in found.rows.values():
            self.assertIs(type(row), tuple)
            self.assertTrue(all(truth is True or truth is False for truth in row))
        self.assertEqual(sorted(vars(found)), ["level", "rows"])

    def test_all_small_forms(self):
        for form in oracle.forms(4, (("no",), ("letter", "p"))) + oracle.forms(3, leaves(2)):
            told = search.first_breach(form, len(oracle.boxes_of(form)))
            self.assertEqual(told_of(breach(Saying(form))), told, oracle.text_of(form))

    def test_drawn(self):
        letters = set()
        for form in drawn_forms(21, 900):
            told = search.first_breach(form, len(oracle.boxes_of(form)))
            self.assertEqual(told_of(breach(Saying(form))), told, oracle.text_of(form))
            letters.add((len(search.letters_of(form)), told is None))
        self.assertEqual(len(letters), 8)

    def test_late_ones(self):
        found = 0
        for form in drawn_forms(22, 900):
            late = ("or", ("box", ("no",)), form)
            told = search.first_breach(late, min(3, len(oracle.boxes_of(late))))
            if told is not None and told[0] > 1:
                found += 1
                self.assertEqual(told_of(breach(Saying(late))), told, oracle.text_of(late))
        self.assertGreater(found, 10)

    def test_fails_there_by_its_row(self):
        for form in drawn_forms(23, 400, 40):
            found = breach(Saying(form))
            if found is not None:
                row = row_of(Saying(form), found.rows)
                self.assertFalse(row[min(found.level, len(row) - 1)])
                self.assertTrue(all(row[:found.level]))
                self.assertTrue(all(len(told) == found.level + 1 for told in found.rows.values()))

    def test_level_of_at_most_the_number_of_boxes(self):
        source = random.Random(24)
        for _ in range(300):
            saying = Saying(oracle.drawn(source, source.randint(20, 60), leaves(3)))
            if len(saying.boxes()) <= 12:
                found = breach(saying)
                self.assertTrue(found is None or found.level <= len(saying.boxes()))

    def test_as_late_as_it_has_boxes(self):
        for many in range(13):
            self.assertEqual(told_of(breach(read("#" * many + "no"))), (many, {}))
            found = breach(read("#" * many + "p"))
            self.assertEqual(told_of(found), (many, {"p": (F,) * (many + 1)}))
        self.assertEqual(breach(read("(#(p | q) | #(p | ~q))")).level, 2)
        self.assertEqual(breach(read("(#(p | q) | (#(p | ~q) | #(~p | q)))")).level, 3)
        found = breach(read("((#(p | q) | #(p | ~q)) | (#(~p | q) | #(~p | ~q)))"))
        self.assertEqual(told_of(found), (4, {"p": (F, F, T, T, F), "q": (F, T, F, T, F)}))

    def test_rows_of_all_letters(self):
        self.assertEqual(breach(read("(((p | ~p) & (q | ~q)) > r)")).rows, {"p": (F,), "q": (F,), "r": (F,)})
        self.assertEqual(breach(read("((r > r) & ((b > b) & #no))")).rows, {"b": (F, F), "r": (F, F)})

    def test_levels_ahead_of_letters(self):
        found = breach(read("((#~p & #~q) | (#p | #q))"))
        self.assertEqual(told_of(found), (2, {"p": (F, F, F), "q": (F, T, F)}))
        found = breach(read("(#p | (#q | #(p | q)))"))
        self.assertEqual(told_of(found), (1, {"p": (F, F), "q": (F, F)}))
        found = breach(read("((#p | #q) | ~(#(p > q) & #(q > p)))"))
        self.assertEqual(told_of(found), (1, {"p": (F, F), "q": (F, F)}))
        found = breach(read("((#p | #q) | #(p > q))"))
        self.assertEqual(told_of(found), (2, {"p": (F, T, F), "q": (F, F, F)}))


class Always(unittest.TestCase):
    def test_known(self):
        for text in KNOWN:
            self.assertIs(always(read(text)), True, text)
        for text, _, _ in FAILING:
            self.assertIs(always(read(text)), False, text)

    def test_just_if_there_is_no_breach(self):
        for form in drawn_forms(25, 400, 40):
            self.assertIs(always(Saying(form)), breach(Saying(form)) is None)

    def test_rules_of_the_theory(self):
        for form in drawn_forms(26, 300):
            saying = Saying(form)
            if always(saying):
                self.assertTrue(always(+saying))
            if always(+saying):
                self.assertTrue(always(saying))
            if always(+saying >> saying):
                self.assertTrue(always(saying))

    def test_loeb_with_any_saying(self):
        for form in drawn_forms(27, 300, 25):
            saying = Saying(form)
            if len(saying.boxes()) <= 8:
                self.assertTrue(always(+(+saying >> saying) >> +saying), saying.text())
                self.assertTrue(follows(+(+saying >> saying), +saying), saying.text())
                self.assertTrue(alike(+(+saying >> saying), +saying), saying.text())


class FollowsAndAlike(unittest.TestCase):
    def test_told(self):
        for one, other, there, back in (("p", "p", T, T), ("p", "q", F, F), ("(p & q)", "p", T, F), ("p", "yes", T, F),
                                        ("no", "p", T, F), ("#p", "##p", T, F), ("#no", "#p", T, F), ("#p", "p", F, F),
                                        ("#(p & q)", "(#p & #q)", T, T), ("#(p | q)", "(#p | #q)", F, T),
                                        ("#~#p", "#no", T, T), ("#(#p > p)", "#p", T, T), ("~#no", "~##no", F, T),
                                        ("(p & ~p)", "(q & ~q)", T, T), ("(p | ~p)", "(r | ~r)", T, T),
                                        ("(p > (q > r))", "((p & q) > r)", T, T), ("#p", "#q", F, F),
                                        ("(p & #q)", "(r | (#q & p))", T, F), ("~~p", "p", T, T),
                                        ("(p > q)", "(~q > ~p)", T, T), ("(p > q)", "(q > p)", F, F)):
            one, other = read(one), read(other)
            self.assertIs(follows(one, other), there)
            self.assertIs(follows(other, one), back)
            self.assertIs(alike(one, other), there and back)
            self.assertIs(alike(other, one), there and back)

    def test_drawn(self):
        pairs = list(zip(drawn_forms(28, 300, 8), drawn_forms(29, 300, 8)))
        for one, other in pairs:
            there = breach(Saying(("if", one, other))) is None
            back = breach(Saying(("if", other, one))) is None
            self.assertIs(follows(Saying(one), Saying(other)), there)
            self.assertIs(alike(Saying(one), Saying(other)), there and back)

    def test_constants(self):
        self.assertTrue(alike(read("#yes"), yes()))
        self.assertFalse(alike(read("#no"), no()))


class Reached(unittest.TestCase):
    def test_told(self):
        for text, told in (("yes", [()]), ("p", [()]), ("#yes", [()]), ("#no", [(), (0,)]), ("#p", [(), (0,)]),
                           ("(#p & #q)", [(), (0,), (0, 1), (1,)]), ("(#(#p > p) > #p)", [(), (0, 1)]),
                           ("(#p & #~p)", [(), (0,), (0, 1), (1,)]), ("#(p | #p)", [(), (1,), (0, 1)])):
            self.assertEqual(reached(read(text)), sorted(told), text)

    def test_nested(self):
        self.assertEqual([box.text() for box in read("##no").boxes()], ["##no", "#no"])
        self.assertEqual(reached(read("##no")), [(), (0, 1), (1,)])
        self.assertEqual(reached(read("###no")), [(), (0, 1, 2), (1, 2), (2,)])

    def test_kinds(self):
        found = reached(read("(#p & #q)"))
        self.assertIs(type(found), list)
        self.assertEqual([type(fallen) for fallen in found], [tuple] * 4)
        self.assertEqual(found, [(), (0,), (0, 1), (1,)])

    def test_drawn(self):
        for form in drawn_forms(30, 700):
            self.assertEqual(reached(Saying(form)), search.sets_along_rows(form), oracle.text_of(form))

    def test_is_least_lot(self):
        for form in drawn_forms(31, 200):
            self.assertEqual(reached(Saying(form)), sorted(search.least_lot_around(form, ())))

    def test_letters_that_are_not_in_boxes(self):
        self.assertEqual(reached(read("((p & q) | #r)")), [(), (0,)])


class AtTheLimits(unittest.TestCase):
    PARTS = ("#p", "#q", "#r", "#~p", "#~q", "#~r", "#(p > q)", "#(p | q)", "#(q > r)", "#(q | r)", "#(r > p)",
             "#(p | r)")

    def test_twelve_boxes_and_three_letters(self):
        for sign in ("|", "&", ">"):
            text = self.PARTS[0]
            for part in self.PARTS[1:]:
                text = f"({text} {sign} {part})"
            saying = read(text)
            self.assertEqual((len(saying.boxes()), saying.letters()), (12, ["p", "q", "r"]))
            lot = reached(saying)
            self.assertEqual(lot, sorted(search.least_lot_around(saying.form(), ())))
            self.assertFalse(is_paper(saying, lot))
            found = breach(saying)
            self.assertFalse(oracle.truth(saying.form(), found.level, found.rows, {}))
            self.assertTrue(alike(saying, saying))

    def test_drawn_ones_of_sixty_signs(self):
        source = random.Random(33)
        for _ in range(200):
            saying = Saying(oracle.drawn(source, 60, leaves(3)))
            if len(saying.boxes()) <= 12:
                self.assertIs(always(saying), is_paper(saying, reached(saying)))
                self.assertTrue(follows(saying, saying))


class NoActsOfEach(unittest.TestCase):
    SAYINGS = ("me-him", "#me-him", "(p & #bob-amy)", "(no & #(him-me & q))", "(yes | ~bob-bob)", "(p | (~p | me-me))")

    def check(self, function, *told):
        with self.assertRaises(NoActs) as caught:
            function(*told)
        self.assertIs(type(caught.exception), NoActs)

    def test_of_one(self):
        for text in self.SAYINGS:
            for function in (breach, always, reached):
                self.check(function, read(text))
        self.check(always, act("me", "him"))

    def test_of_two(self):
        for text in self.SAYINGS:
            for function in (follows, alike):
                for other in (yes(), no(), letter("p"), read("(no & me-him)")):
                    self.check(function, read(text), other)
                    self.check(function, other, read(text))

    def test_of_papers(self):
        for text in self.SAYINGS:
            for thing in ([()], [], None, 5, "lot", [(), (0,)], [(7,)], {}, [[True]]):
                self.check(is_paper, read(text), thing)


if __name__ == "__main__":
    unittest.main()
