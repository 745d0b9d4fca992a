"""Point 25: least lots of meetings, shields, how often sets change, and whether x can wait."""

import random
import unittest

import against
from making import NAMES, company_of, of_texts
from boxfall.companies import Company
from boxfall.meetings import boxes_with, meeting, met
from boxfall.sayings import Saying, letter, no, yes
from boxfall.strangers import can_wait, ends, falls, is_shield, reached_with

T, F = True, False
read = Saying.read
PAIRS = ((F, F), (F, T), (T, F), (T, T))


class AnyBox:
    """Equal to whatever it is compared with."""

    def __eq__(self, other):
        return True


def told_players(seed, rounds, longest=10, most=10):
    """Drawn companies as dicts, as companies, and one of their players."""
    source = random.Random(seed)
    for _ in range(rounds):
        told, (name,) = against.drawn(source, NAMES, longest, 3, most=most)
        yield told, company_of(told), name


class Reached(unittest.TestCase):
    def test_known_players(self):
        company = of_texts(fair="#him-me", soft="~#~him-me", yea="yes", nay="no", long="###him-me")
        for name, lot in (("fair", [(), (0,)]), ("soft", [(), (0,)]), ("yea", [()]), ("nay", [()]),
                          ("long", [(), (0, 1, 2), (1, 2), (2,)])):
            self.assertEqual(reached_with(company, name), lot)
            self.assertEqual(reached_with(name=name, company=company), lot)

    def test_with_all_truths(self):
        company = of_texts(amy="((#him-me & #~him-me) & (#him-bob | #~him-bob))", bob="no")
        self.assertEqual(boxes_with(company, "amy"), ["#x-amy", "#x-bob", "#~x-amy", "#~x-bob"])
        self.assertEqual(reached_with(company, "amy"), [(), (0, 1), (0, 1, 2), (0, 1, 2, 3), (0, 1, 3), (0, 2, 3),
                                                        (0, 3), (1, 2), (1, 2, 3), (2, 3)])

    def test_boxes_that_fall_anyhow(self):
        company = of_texts(amy="(##no | #him-me)", bob="yes")
        self.assertEqual(boxes_with(company, "amy"), ["##no", "#no", "#x-amy"])
        self.assertEqual(reached_with(company, "amy"), [(), (0, 1), (0, 1, 2), (1,), (1, 2)])

    def test_new_ones(self):
        company = of_texts(amy="#him-me")
        lot = reached_with(company, "amy")
        self.assertIs(type(lot), list)
        self.assertTrue(all(type(fallen) is tuple for fallen in lot))
        lot.clear()
        self.assertEqual(reached_with(company, "amy"), [(), (0,)])

    def test_along_all_rows(self):
        checked = 0
        for told, company, name in told_players(81, 900):
            boxes, acts = against.size_of(told, [name], {})
            if 0 < boxes * acts <= 8:
                self.assertEqual(reached_with(company, name), against.sets_along_rows(told, name))
                checked += 1
        self.assertGreater(checked, 150)

    def test_by_steps(self):
        sizes = set()
        for told, company, name in told_players(82, 300, 14):
            lot = against.told_lot(against.Walks(told, name).sets)
            self.assertEqual(reached_with(company, name), lot)
            sizes.add(len(lot))
        self.assertGreater(len(sizes), 10)

    def test_sets_of_meetings_are_reached(self):
        source = random.Random(83)
        for _, company, name in told_players(84, 150, 12):
            lot = reached_with(company, name)
            for _ in range(10):
                rows = {one: tuple(source.random() < 0.5 for _ in range(8)) for one in met(company, name)}
                self.assertLessEqual(set(meeting(company, name, rows).sets), set(lot))


class Shields(unittest.TestCase):
    def test_known_players(self):
        company = of_texts(fair="#him-me", soft="~#~him-me", yea="yes", nay="no")
        for name, lot, shielded in (("fair", [(), (0,)], {(T, F)}), ("soft", [(), (0,)], {(F, T)}),
                                    ("yea", [()], {(F, F), (F, T)}), ("nay", [()], {(T, F), (T, T)})):
            for end in PAIRS:
                self.assertIs(is_shield(company, name, end, lot), end in shielded, (name, end))

    def test_lists_and_tuples(self):
        company = of_texts(fair="#him-me")
        for end in ((T, F), [T, F]):
            for thing in ([(), (0,)], ((), (0,)), [[], [0]], ([], [0]), [(), [0]], [(0,), []], ([0], ())):
                self.assertIs(is_shield(company, "fair", end, thing), True)
                self.assertIs(is_shield(thing=thing, end=end, name="fair", company=company), True)
        for end in ((F, T), [F, T]):
            self.assertIs(is_shield(company, "fair", end, [(), [0]]), False)

    def test_arguments_are_not_changed(self):
        company = of_texts(fair="#him-me")
        twin = company.twin()
        end, thing = [T, F], [[0], []]
        is_shield(company, "fair", end, thing)
        self.assertEqual((end, thing, company), ([T, F], [[0], []], twin))
        spoilt = [[0, 0], [], 5]
        is_shield(company, "fair", end, spoilt)
        self.assertEqual(spoilt, [[0, 0], [], 5])

    def test_just_if_no_meeting_ends_so(self):
        answers = []
        for _, company, name in told_players(85, 300, 12):
            lot = reached_with(company, name)
            possible = ends(company, name)
            for end in PAIRS:
                answers.append(is_shield(company, name, end, lot))
                self.assertIs(answers[-1], end not in possible)
                self.assertIs(is_shield(company, name, list(end), tuple([list(fallen) for fallen in lot[::-1]])),
                              answers[-1])
        self.assertGreater(answers.count(T), 100)
        self.assertGreater(answers.count(F), 100)

    def test_greater_lots(self):
        company = of_texts(amy="(#him-me & #no)")
        self.assertEqual(boxes_with(company, "amy"), ["#no", "#x-amy"])
        self.assertEqual(reached_with(company, "amy"), [(), (0,), (0, 1)])
        # From (1,) #no falls in any case: it leads to itself with no end.
        for end, told in (((F, F), F), ((F, T), F), ((T, F), T), ((T, T), T)):
            self.assertIs(is_shield(company, "amy", end, [(), (0,), (0, 1), (1,)]), told)
        # A set that is not reached spoils the greater lot: at (0,) x can stay for ever.
        company = of_texts(amy="(#him-me & ~#(#him-me | him-me))")
        self.assertEqual(boxes_with(company, "amy"), ["#(#x-amy | x-amy)", "#x-amy"])
        lot = reached_with(company, "amy")
        self.assertEqual(lot, [(), (0, 1), (1,)])
        self.assertIs(is_shield(company, "amy", (T, T), lot), True)
        self.assertIs(is_shield(company, "amy", (T, T), lot + [(0,)]), False)
        self.assertIs(is_shield(company, "amy", (T, F), lot + [(0,)]), True)

    def test_drawn_greater_lots(self):
        source = random.Random(86)
        answers = []
        for told, company, name in told_players(87, 500, 9, 5):
            walks = against.Walks(told, name)
            many = len(walks.boxes)
            if many:
                extra = [frozenset(place for place in range(many) if source.random() < 0.5) for _ in range(2)]
                sets = walks.around(extra)
                lot = against.told_lot(sets)
                possible = set().union(*[walks.resting_ends(fallen) for fallen in sets])
                for end in PAIRS:
                    answers.append(is_shield(company, name, end, lot))
                    self.assertIs(answers[-1], end not in possible)
        self.assertGreater(answers.count(T), 200)
        self.assertGreater(answers.count(F), 200)

    def test_drawn_lots_without_one_of_their_sets(self):
        source = random.Random(88)
        for told, company, name in told_players(89, 300, 9, 6):
            lot = reached_with(company, name)
            left = source.choice(lot)
            less = [fallen for fallen in lot if fallen != left]
            # The least lot is the least one: with any set less it is none.
            for end in PAIRS:
                self.assertIs(is_shield(company, name, end, less), False)

    def test_anew_behind_a_change(self):
        company = of_texts(amy="#him-me")
        lot = reached_with(company, "amy")
        self.assertTrue(is_shield(company, "amy", (T, F), lot))
        company["amy"] = read("##him-me")
        self.assertFalse(is_shield(company, "amy", (T, F), lot))
        self.assertTrue(is_shield(company, "amy", (T, F), reached_with(company, "amy")))
        company["amy"] = read("~#him-me")
        self.assertEqual(reached_with(company, "amy"), lot)
        self.assertFalse(is_shield(company, "amy", (T, F), lot))


class NoShields(unittest.TestCase):
    def setUp(self):
        self.company = of_texts(amy="(#him-me & #(him-me & him-me))")

    def check(self, *things):
        for thing in things:
            self.assertIs(is_shield(self.company, "amy", (T, F), thing), False, thing)

    def test_this_is_one(self):
        self.assertEqual(reached_with(self.company, "amy"), [(), (0, 1)])
        self.assertIs(is_shield(self.company, "amy", (T, F), [(), (0, 1)]), True)
        self.assertIs(is_shield(self.company, "amy", (T, F), [(), (0,), (0, 1), (1,)]), True)

    def test_other_objects(self):
        self.check(None, True, False, 0, 1, 2.5, "", "()", "lot", b"", b"01", {}, set(), {(): True, (0, 1): True},
                   {(), (0, 1)}, frozenset({(), (0, 1)}), object(), list, iter([(), (0, 1)]), range(2), letter("p"),
                   self.company, AnyBox(), lambda: [(), (0, 1)])

    def test_without_the_empty_one_or_another(self):
        self.check([], (), [(0, 1)], [[0, 1]], [(0,), (0, 1)], [()], ((),), [(), (0,)], [(), (1,)], [[]])

    def test_a_set_twice(self):
        self.check([(), (), (0, 1)], [(), (0, 1), (0, 1)], [(), [0, 1], (0, 1)], [[], (), (0, 1)])
        self.company = of_texts(amy="no")
        self.check([(), ()], [(), []])
        self.assertIs(is_shield(self.company, "amy", (T, F), [[]]), True)

    def test_places(self):
        self.check([(), (1, 0)], [(), (0, 1), (1, 0)], [(), (0, 1), (0, 0, 1)], [(), (0, 1, 1)], [(), (0, 1), (2,)],
                   [(), (0, 1, 2)], [(), (0, 1), (-1,)], [(), (-1, 0, 1)], [(), (-2, -1)], [(), (0, 1), (0, 10 ** 50)],
                   [(), (0, 1), (-10 ** 50, 0)])

    def test_no_places(self):
        self.check([(), (False, True)], [(), (0, True)], [(), (False, 1)], [(), (0, 1), (True,)], [(), (0, 1.0)],
                   [(), (0.0, 1.0)], [(), ("0", "1")], [(), ("#x-amy", "#(x-amy & x-amy)")], [(), (0, None)],
                   [(), (0, (1,))], [(), (0, [1])], [(), (0, {})], [(), (AnyBox(), AnyBox())],
                   [(), (0, 1), (letter("p"),)])

    def test_no_sets(self):
        for thing in (None, 0, 1, True, "", "01", b"", {}, {0: True}, {0, 1}, AnyBox(), letter("p"), self.company):
            self.check([(), (0, 1), thing], [thing, (), (0, 1)])
        self.check([(), "01"], [(), {0, 1}], [(), range(2)], [{}, (0, 1)], ["", (0, 1)], (0, 1), [[(), (0, 1)]])

    def test_deep_and_long_ones(self):
        thing = []
        for _ in range(2000):
            thing = [thing]
        around = [(), (0, 1)]
        around.append(around)
        self.check(thing, [(), (0, 1), thing], around, [()] * 5000, [(), tuple(range(5000))])

    def test_all_boxes_that_count_have_places(self):
        self.company = of_texts(amy="(#bob-him & #him-me)", bob="#him-me")
        self.assertEqual(len(boxes_with(self.company, "amy")), 3)
        lot = reached_with(self.company, "amy")
        self.assertIn((0, 1, 2), lot)
        self.assertIs(is_shield(self.company, "amy", (T, F), lot), True)
        self.check(lot + [(3,)], lot + [(0, 1, 2, 3)])


class FallsAndWaiting(unittest.TestCase):
    def test_known_players(self):
        company = of_texts(fair="#him-me", soft="~#~him-me", yea="yes", nay="#no", long="###him-me")
        for name, many, waits in (("fair", 1, T), ("soft", 1, T), ("yea", 0, F), ("nay", 1, F), ("long", 3, T)):
            self.assertEqual(falls(company, name), many)
            self.assertIs(can_wait(company, name), waits)
            self.assertEqual(falls(name=name, company=company), many)
            self.assertIs(can_wait(name=name, company=company), waits)

    def test_several_boxes_at_once(self):
        company = of_texts(amy="((#him-me & #(him-me & yes)) | #(no | him-me))", bob="(#~him-me | #him-me)",
                           al="(#him-me & #him-bob)")
        self.assertEqual([falls(company, name) for name in ("amy", "bob", "al")], [1, 2, 2])

    def test_what_falls_at_once_or_one_by_one(self):
        company = of_texts(amy="(#him-me & #(him-me & #(no | him-me)))")
        self.assertEqual(boxes_with(company, "amy"), ["#(no | x-amy)", "#(x-amy & #(no | x-amy))", "#x-amy"])
        self.assertEqual(falls(company, "amy"), 1)
        company = of_texts(amy="(##no & #him-me)")
        self.assertEqual(falls(company, "amy"), 3)
        self.assertEqual(falls(of_texts(amy="###no"), "amy"), 3)

    def test_no_wait_though_there_are_choices(self):
        # All hangs on level 0, where #no falls whatever x does.
        company = of_texts(amy="(#no | #(him-me | ~#no))")
        self.assertEqual(boxes_with(company, "amy"), ["#(x-amy | ~#no)", "#no"])
        self.assertEqual(reached_with(company, "amy"), [(), (0, 1), (1,)])
        self.assertIs(can_wait(company, "amy"), F)
        # At the empty set each choice brings down a box, at the next ones only one choice does.
        company = of_texts(amy="(#him-me & #~him-me)")
        self.assertIs(can_wait(company, "amy"), T)

    def test_choices_that_do_nothing(self):
        company = of_texts(amy="#(him-me | ~him-me)", bob="(#yes & #(him-me > him-me))")
        self.assertEqual([can_wait(company, name) for name in ("amy", "bob")], [F, F])
        self.assertEqual([falls(company, name) for name in ("amy", "bob")], [0, 0])

    def test_drawn(self):
        answers, counts = [], set()
        for told, company, name in told_players(90, 400, 13):
            walks = against.Walks(told, name)
            self.assertEqual(falls(company, name), walks.falls())
            counts.add(falls(company, name))
            answers.append(can_wait(company, name))
            self.assertIs(answers[-1], walks.can_wait())
        self.assertGreater(answers.count(T), 50)
        self.assertGreater(answers.count(F), 50)
        self.assertLessEqual({0, 1, 2, 3, 4}, counts)

    def test_no_meeting_has_more_changes(self):
        source = random.Random(91)
        for _, company, name in told_players(92, 150, 12):
            for _ in range(10):
                rows = {one: tuple(source.random() < 0.5 for _ in range(12)) for one in met(company, name)}
                sets = meeting(company, name, rows).sets
                self.assertLessEqual(len(set(sets)) - 1, falls(company, name))

    def test_anew_behind_a_change(self):
        company = Company({"amy": yes(), "bob": no()})
        self.assertEqual((falls(company, "amy"), can_wait(company, "amy")), (0, F))
        company["amy"] = read("(#him-me & #him-bob)")
        self.assertEqual((falls(company, "amy"), can_wait(company, "amy")), (2, T))
        company["amy"] = read("(#bob-him & #bob-me)")
        self.assertEqual((falls(company, "amy"), can_wait(company, "amy")), (1, F))


if __name__ == "__main__":
    unittest.main()
