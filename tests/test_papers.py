"""Point 17: which objects are papers of a saying."""

import random
import unittest

import oracle
import search
from boxfall.always import always, is_paper, reached
from boxfall.sayings import Saying, letter, yes

T, F = True, False
read = Saying.read
LOEB = read("(#(#p > p) > #p)")
LETTERS = (("no",), ("letter", "p"), ("letter", "q"))


class AnyBox:
    """Equal to whatever it is compared with."""

    def __eq__(self, other):
        return True


def lot_with(form, source):
    """A lot with some sets that need not be reached."""
    sets = search.all_sets(form)
    return search.least_lot_around(form, source.sample(sets, source.randint(0, len(sets))))


class Papers(unittest.TestCase):
    def test_least_lot(self):
        for text in ("yes", "(p | ~p)", "(#(#p > p) > #p)", "(#p > ##p)", "(#(p > q) > (#p > #q))", "#(#p > #p)"):
            saying = read(text)
            self.assertIs(is_paper(saying, reached(saying)), True, text)
            self.assertIs(is_paper(saying, tuple(reached(saying))), True, text)
            self.assertIs(is_paper(saying, reached(saying)[::-1]), True, text)

    def test_just_if_it_holds_always(self):
        source = random.Random(41)
        for _ in range(500):
            saying = Saying(oracle.drawn(source, source.randint(1, 30), LETTERS))
            if len(saying.boxes()) <= 8:
                self.assertIs(is_paper(saying, reached(saying)), always(saying))

    def test_can_fail(self):
        for text in ("no", "p", "#no", "#p", "(#p > p)", "(#p | #~p)", "(p > #p)"):
            saying = read(text)
            self.assertIs(is_paper(saying, reached(saying)), False, text)
            self.assertIs(is_paper(saying, search.all_sets(saying.form())), False, text)

    def test_lists_and_tuples(self):
        for thing in ([(), (0, 1)], [[], [0, 1]], ((), (0, 1)), ([], (0, 1)), [(), [0, 1]], [(0, 1), []]):
            self.assertIs(is_paper(LOEB, thing), True, thing)
            self.assertIs(is_paper(saying=LOEB, thing=thing), True, thing)

    def test_greater_ones(self):
        self.assertEqual(reached(LOEB), [(), (0, 1)])
        # At (0,) the second box stands and with it the inner saying of the first one; the saying is true.
        self.assertIs(is_paper(LOEB, [(), (0,), (0, 1)]), True)
        # At (1,) the saying is false.
        self.assertIs(is_paper(LOEB, [(), (1,), (0, 1)]), False)
        saying = read("(#p > #p)")
        self.assertIs(is_paper(saying, [(), (0,)]), True)
        saying = read("(##no > ##no)")
        self.assertEqual(reached(saying), [(), (0, 1), (1,)])
        for extra in ([(0,)], []):
            self.assertIs(is_paper(saying, [(), (0, 1), (1,)] + extra), True)

    def test_all_lots_of_small_forms(self):
        for form in oracle.forms(4, (("no",), ("letter", "p"))):
            sets = search.all_sets(form)
            for number in range(1 << len(sets)):
                lot = [fallen for at, fallen in enumerate(sets) if number >> at & 1]
                told = search.is_lot(form, lot) and all(search.holds_at(form, fallen) for fallen in lot)
                self.assertIs(is_paper(Saying(form), lot), told, (oracle.text_of(form), lot))

    def test_drawn_lots(self):
        source = random.Random(42)
        answers = []
        while len(answers) < 600:
            one, other = (oracle.drawn(source, source.randint(4, 16), LETTERS) for _ in range(2))
            form = source.choice((("or", one, other), ("if", ("and", one, other), one)))
            if 1 <= len(oracle.boxes_of(form)) <= 4:
                lot = sorted(lot_with(form, source))
                told = all(search.holds_at(form, fallen) for fallen in lot)
                self.assertIs(is_paper(Saying(form), lot), told)
                if len(lot) > 1:
                    less = list(lot)
                    less.remove(source.choice(lot))
                    told = search.is_lot(form, less) and all(search.holds_at(form, fallen) for fallen in less)
                    self.assertIs(is_paper(Saying(form), less), told)
                answers.append(told)
        self.assertGreater(answers.count(True), 50)
        self.assertGreater(answers.count(False), 50)


class NoPapers(unittest.TestCase):
    def check(self, *things):
        for thing in things:
            self.assertIs(is_paper(LOEB, thing), False, thing)

    def test_other_objects(self):
        self.check(None, True, False, 0, 1, 2.5, "", "()", "lot", b"", b"01", {}, set(), {(): True, (0, 1): True},
                   {(), (0, 1)}, frozenset({(), (0, 1)}), object(), list, iter([(), (0, 1)]), range(2), LOEB,
                   letter("p"), AnyBox(), lambda: [(), (0, 1)])

    def test_without_the_empty_one(self):
        self.check([], (), [(0, 1)], [[0, 1]], [(0,), (0, 1)])

    def test_a_set_left_out(self):
        self.check([()], ((),), [(), (0,)], [[]])
        saying = read("((#p & #q) > (#p & #q))")
        for left in ((), (0,), (0, 1), (1,)):
            lot = [fallen for fallen in ((), (0,), (0, 1), (1,)) if fallen != left]
            self.assertIs(is_paper(saying, lot), False, left)
        self.assertIs(is_paper(saying, [(), (0,), (0, 1), (1,)]), True)

    def test_a_set_twice(self):
        self.check([(), (), (0, 1)], [(), (0, 1), (0, 1)], [(), [0, 1], (0, 1)], [[], (), (0, 1)])
        self.assertIs(is_paper(yes(), [(), ()]), False)
        self.assertIs(is_paper(yes(), [[]]), True)

    def test_places(self):
        self.check([(), (1, 0)], [(), (0, 1), (1, 0)], [(), (0, 1), (0, 0, 1)], [(), (0, 1, 1)], [(), (0, 1), (2,)],
                   [(), (0, 1, 2)], [(), (0, 1), (-1,)], [(), (-1, 0, 1)], [(), (-2, -1)], [(), (0, 1), (0, 10 ** 50)],
                   [(), (0, 1), (-10 ** 50, 0)])

    def test_no_places(self):
        self.check([(), (False, True)], [(), (0, True)], [(), (False, 1)], [(), (0, 1), (True,)], [(), (0, 1.0)],
                   [(), (0.0, 1.0)], [(), ("0", "1")], [(), ("#p", "#(#p > p)")], [(), (0, None)], [(), (0, (1,))],
                   [(), (0, [1])], [(), (0, {})], [(), (AnyBox(), AnyBox())], [(), (0, 1), (letter("p"),)])

    def test_no_sets(self):
        for thing in (None, 0, 1, True, "", "01", b"", {}, {0: True}, {0, 1}, AnyBox(), letter("p")):
            self.check([(), (0, 1), thing], [thing, (), (0, 1)])
        self.check([(), "01"], [(), {0, 1}], [(), b"\x00\x01"], [(), range(2)], [{}, (0, 1)], ["", (0, 1)],
                   [None, (0, 1)], (0, 1), [0, 1], [[(), (0, 1)]])

    def test_deep_ones(self):
        thing = []
        for _ in range(2000):
            thing = [thing]
        self.check(thing, [(), (0, 1), thing])
        around = [(), (0, 1)]
        around.append(around)
        self.assertIs(is_paper(LOEB, around), False)

    def test_long_ones(self):
        self.check([()] * 5000, [(), (0, 1)] * 2000, [(), tuple(range(5000))])

    def test_arguments_are_not_changed(self):
        thing = [[0, 1], []]
        self.assertTrue(is_paper(LOEB, thing))
        self.assertEqual(thing, [[0, 1], []])
        thing = [[1, 0], [], [0, 1]]
        self.assertFalse(is_paper(LOEB, thing))
        self.assertEqual(thing, [[1, 0], [], [0, 1]])


if __name__ == "__main__":
    unittest.main()
