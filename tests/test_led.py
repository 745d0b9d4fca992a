"""Point 31: meetings that are led level by level."""

import random
import unittest

import against
import oracle
import players
from making import NAMES, company_of, of_texts
from boxfall.companies import Company
from boxfall.errors import BadTruth, NoRow
from boxfall.led import Led
from boxfall.meetings import meeting, met
from boxfall.sayings import Saying, no, yes

T, F = True, False
read = Saying.read


def state(led):
    return led.level, led.fallen, led.row


def all_states(led):
    """The present state and all earlier ones, by a twin that is taken back."""
    twin = led.twin()
    states = [state(twin)]
    while twin.undo():
        states.append(state(twin))
    return states


def at_level(row, level):
    return row[min(level, len(row) - 1)]


def truths_at(rows, level):
    return {name: at_level(row, level) for name, row in rows.items()}


def drawn_led(seed, rounds, longest=12):
    """Drawn companies, one of their players, and rows for those met."""
    source = random.Random(seed)
    for _ in range(rounds):
        told, (name,) = against.drawn(source, NAMES, longest, 3)
        yield told, name, {one: oracle.drawn_row(source, 8) for one in players.met(told, name)}


class Going(unittest.TestCase):
    def test_known_players(self):
        led = Led(of_texts(fair="#him-me"), "fair")
        self.assertEqual(state(led), (0, (), (T,)))
        self.assertIs(led.go({"fair": T}), T)
        self.assertEqual(state(led), (1, (), (T, T)))
        self.assertIs(led.go({"fair": F}), F)
        self.assertEqual(state(led), (2, (0,), (T, T, F)))
        self.assertIs(led.go({"fair": T}), F)
        self.assertEqual(state(led), (3, (0,), (T, T, F, F)))
        led = Led(of_texts(soft="~#~him-me"), "soft")
        self.assertEqual(state(led), (0, (), (F,)))
        self.assertEqual([led.go({"soft": act}) for act in (F, F, T, F)], [F, F, T, T])
        self.assertEqual(state(led), (4, (0,), (F, F, F, T, T)))

    def test_kinds(self):
        led = Led(of_texts(amy="(#him-me & #him-bob)", bob="yes"), "amy")
        for _ in range(3):
            self.assertEqual([type(thing) for thing in state(led)], [int, tuple, tuple])
            self.assertTrue(all(type(act) is bool for act in led.row))
            self.assertIs(type(led.go({"amy": T, "bob": F})), bool)
        self.assertIs(type(led.undo()), bool)

    def test_names_of_arguments(self):
        company = of_texts(fair="#him-me")
        led = Led(company=company, name="fair")
        self.assertIs(led.go(truths={"fair": F}), F)
        self.assertEqual(led.trial(work=state), (1, (0,), (T, F)))
        self.assertEqual(state(Led(name="fair", company=company)), (0, (), (T,)))

    def test_by_the_rows_of_a_meeting(self):
        lengths = set()
        for told, name, rows in drawn_led(141, 300):
            company = company_of(told)
            found = meeting(company, name, rows)
            led = Led(company, name)
            for level in range(len(found.sets) + 3):
                self.assertEqual(state(led), (level, at_level(found.sets, level),
                                              tuple(at_level(found.row, low) for low in range(level + 1))))
                act = led.go(truths_at(rows, level))
                self.assertIs(act, at_level(found.row, level + 1))
            self.assertEqual((led.row[-1], rows[name][-1]), found.end)
            lengths.add(len(found.sets))
        self.assertLessEqual({1, 2, 3, 4, 5, 6}, lengths)

    def test_against_the_slow_truths(self):
        for told, name, rows in drawn_led(142, 100, 10):
            acts, known = players.acts_at_levels(told, rows, [(name, "x")], 10)
            boxes = players.boxes_that_count(told, [(name, "x")])
            led = Led(company_of(told), name)
            for level in range(9):
                fallen = tuple(place for place, box in enumerate(boxes)
                               if not players.truth(told, rows, box, level, known))
                self.assertEqual(state(led), (level, fallen, tuple(acts[name, "x"][:level + 1])))
                led.go(truths_at(rows, level))

    def test_further_names(self):
        company = of_texts(amy="(#him-me & #him-bob)", bob="yes")
        one, other = Led(company, "amy"), Led(company, "amy")
        truths = {"zed": T, "x": None, 5: F, None: T, "amy": T, ("a", "b"): 0, "bob": F, "me": "no"}
        kept = dict(truths)
        self.assertEqual(one.go(truths), other.go({"amy": T, "bob": F}))
        self.assertEqual(state(one), state(other))
        self.assertEqual(list(truths.items()), list(kept.items()))

    def test_the_stranger_with_itself(self):
        company = of_texts(amy="(#him-him > #him-me)")
        led = Led(company, "amy")
        self.assertEqual([led.go({"amy": F, "x": T}), led.go({"amy": F, "x": F})], [F, T])
        self.assertEqual(led.fallen, (0, 1))

    def test_later_changes(self):
        company = of_texts(amy="#bob-him", bob="#him-me")
        led = Led(company, "amy")
        truths = {"amy": T, "bob": T}
        led.go(truths)
        truths["bob"] = F
        company["bob"] = no()
        company["amy"] = read("~#him-me")
        company["amy", "bob"] = yes()
        company.drop("bob")
        twin = led.twin()
        for one in (led, twin):
            self.assertEqual([one.go({"amy": F, "bob": act}) for act in (T, F, F, T)], [T, T, F, F])
            self.assertEqual(one.row, (T, T, T, T, F, F))
        with self.assertRaises(NoRow):
            led.go({"amy": T})
        company.drop("amy")
        self.assertIs(led.twin().go({"amy": F, "bob": T}), F)

    def test_the_company_stays(self):
        company = of_texts(amy="#bob-him", bob="#him-me")
        twin = company.twin()
        led = Led(company, "amy")
        led.go({"amy": F, "bob": F})
        led.trial(lambda one: one.go({"amy": F, "bob": F}))
        self.assertEqual(company, twin)

    def test_two_on_one_company(self):
        company = of_texts(amy="#him-me", bob="##him-me")
        one, other, third = Led(company, "amy"), Led(company, "amy"), Led(company, "bob")
        one.go({"amy": F})
        third.go({"bob": F})
        self.assertEqual([state(led) for led in (one, other, third)],
                         [(1, (0,), (T, F)), (0, (), (T,)), (1, (1,), (T, T))])

    def test_long_ones(self):
        led = Led(of_texts(amy="#" * 10 + "him-me"), "amy")
        for level in range(300):
            led.go({"amy": level != 200})
        self.assertEqual((led.level, led.fallen, led.row), (300, tuple(range(10)), (T,) * 210 + (F,) * 91))
        for _ in range(300):
            self.assertIs(led.undo(), T)
        self.assertEqual(state(led), (0, (), (T,)))
        self.assertIs(led.undo(), F)


class Errors(unittest.TestCase):
    def setUp(self):
        self.led = Led(of_texts(bob="(#him-me & (#him-xi | #(him-him > him-al)))", al="yes", xi="no"), "bob")
        self.led.go({"al": T, "bob": T, "x": F, "xi": F})

    def check(self, error, name, truths):
        before = all_states(self.led)
        kept = dict(truths)
        with self.assertRaises(error) as caught:
            self.led.go(truths)
        self.assertIs(type(caught.exception), error)
        self.assertEqual(caught.exception.name, name)
        self.assertEqual(all_states(self.led), before)
        self.assertEqual(truths, kept)

    def test_no_row(self):
        truths = {"zed": T, "me": F, "him": T}
        for name in ("al", "bob", "x", "xi"):
            self.check(NoRow, name, truths)
            truths[name] = T
        for name in ("al", "bob", "x", "xi"):
            self.check(NoRow, name, {one: truths[one] for one in truths if one != name})
        self.led.go(truths)
        self.assertEqual(self.led.level, 2)

    def test_bad_truth(self):
        for wrong in (0, 1, None, "True", "yes", "", 1.0, (), (T,), [T], [], {}, yes(), object(), b""):
            truths = {name: T for name in ("al", "bob", "x", "xi")}
            for name in ("xi", "x", "bob", "al"):
                self.check(BadTruth, name, {**truths, name: wrong})
                truths[name] = wrong
                self.check(BadTruth, name, truths)

    def test_no_row_ahead_of_bad_truth(self):
        self.check(NoRow, "xi", {"al": 1, "bob": None, "x": "yes"})
        self.check(NoRow, "bob", {"al": 1, "x": "yes", "xi": T})
        self.check(NoRow, "al", {})

    def test_in_a_trial(self):
        before = all_states(self.led)
        with self.assertRaises(BadTruth):
            self.led.trial(lambda led: (led.go({"al": T, "bob": F, "x": F, "xi": T}), led.go({"al": T, "bob": 0,
                                                                                              "x": F, "xi": T})))
        self.assertEqual(all_states(self.led), before)
        with self.assertRaises(NoRow):
            self.led.trial(lambda led: (led.undo(), led.go({})))
        self.assertEqual(all_states(self.led), before)


class Undoing(unittest.TestCase):
    def test_back_to_the_beginning_and_once_more(self):
        for told, name, rows in drawn_led(143, 60):
            led = Led(company_of(told), name)
            states = [state(led)]
            self.assertIs(led.undo(), F)
            for level in range(6):
                led.go(truths_at(rows, level))
                states.append(state(led))
            for before in states[-2::-1]:
                self.assertIs(led.undo(), T)
                self.assertEqual(state(led), before)
            for _ in range(2):
                self.assertIs(led.undo(), F)
                self.assertEqual(state(led), states[0])
            for level in range(6):
                led.go(truths_at(rows, level))
                self.assertEqual(state(led), states[level + 1])

    def test_another_way(self):
        led = Led(of_texts(fair="#him-me"), "fair")
        led.go({"fair": F})
        led.go({"fair": T})
        led.undo()
        led.undo()
        self.assertIs(led.go({"fair": T}), T)
        self.assertEqual(state(led), (1, (), (T, T)))
        self.assertIs(led.go({"fair": F}), F)
        led.undo()
        self.assertEqual(all_states(led), [(1, (), (T, T)), (0, (), (T,))])

    def test_what_failed_is_not_taken_back(self):
        led = Led(of_texts(fair="#him-me"), "fair")
        led.go({"fair": F})
        with self.assertRaises(BadTruth):
            led.go({"fair": 1})
        self.assertIs(led.undo(), T)
        self.assertIs(led.undo(), F)


class Failing(Exception):
    pass


class Trials(unittest.TestCase):
    def setUp(self):
        self.led = Led(of_texts(amy="((#him-me & ##him-bob) | #no)", bob="yes"), "amy")
        self.led.go({"amy": T, "bob": T})
        self.led.go({"amy": T, "bob": F})
        self.states = all_states(self.led)

    def go(self, led, *acts):
        return [led.go({"amy": amy, "bob": bob}) for amy, bob in acts]

    def check(self, work):
        found = self.led.trial(work)
        self.assertEqual(all_states(self.led), self.states)
        return found

    def test_a_value(self):
        value = object()
        self.assertIs(self.check(lambda led: value), value)
        self.assertIsNone(self.check(lambda led: None))
        self.assertEqual(self.check(lambda led: self.go(led, (T, T), (F, T))), [F, F])

    def test_the_led_meeting_itself_is_passed(self):
        self.assertIs(self.check(lambda led: led), self.led)

    def test_what_is_seen_inside(self):
        def work(led):
            before = all_states(led)
            self.go(led, (F, F))
            return before, len(all_states(led)), led.level

        self.assertEqual(self.check(work), (self.states, len(self.states) + 1, 3))

    def test_undoing_what_was_done_before(self):
        self.assertEqual(self.check(lambda led: [led.undo() for _ in range(4)]), [T, T, F, F])
        self.assertEqual(self.check(lambda led: (led.undo(), self.go(led, (F, F), (F, F)))), (T, [F, F]))

        def work(led):
            led.undo()
            led.undo()
            self.go(led, (F, F), (F, T), (T, T), (T, T))
            return state(led)

        self.assertEqual(self.check(work)[0], 4)
        self.go(self.led, (T, T))
        self.assertEqual(all_states(self.led)[1:], self.states)

    def test_errors(self):
        def work(led):
            led.undo()
            self.go(led, (F, F), (F, F), (F, F))
            raise Failing("inside")

        for _ in range(2):
            with self.assertRaises(Failing):
                self.led.trial(work)
            self.assertEqual(all_states(self.led), self.states)
        for error in (ValueError, KeyError, StopIteration, GeneratorExit, KeyboardInterrupt, SystemExit):
            def fail(led):
                led.undo()
                raise error()

            with self.assertRaises(error):
                self.led.trial(fail)
            self.assertEqual(all_states(self.led), self.states)

    def test_trials_within_trials(self):
        seen = []

        def inner(led):
            led.undo()
            led.undo()
            seen.append(state(led))
            return 5

        def failing(led):
            led.undo()
            raise Failing()

        def outer(led):
            self.go(led, (F, F))
            before = all_states(led)
            found = led.trial(inner)
            self.assertEqual(all_states(led), before)
            with self.assertRaises(Failing):
                led.trial(failing)
            self.assertEqual(all_states(led), before)
            led.undo()
            led.undo()
            return found

        self.assertEqual(self.check(outer), 5)
        self.assertEqual(seen, [self.states[1]])

    def test_twins_within_trials(self):
        def work(led):
            self.go(led, (F, F))
            twin = led.twin()
            led.undo()
            self.go(twin, (T, T))
            return twin

        twin = self.check(work)
        self.assertEqual(twin.level, 4)
        self.assertEqual(all_states(twin)[2:], self.states)
        kept = all_states(twin)
        self.led.undo()
        self.assertEqual(all_states(twin), kept)
        self.assertEqual([twin.undo() for _ in range(5)], [T, T, T, T, F])

    def test_a_trial_of_a_twin(self):
        twin = self.led.twin()
        kept = all_states(twin)
        self.check(lambda led: (self.go(twin, (F, F)), twin.trial(lambda one: self.go(one, (F, F)))))
        self.assertEqual(all_states(twin)[1:], kept)

    def test_at_the_beginning(self):
        led = Led(of_texts(fair="#him-me"), "fair")
        self.assertEqual(led.trial(lambda one: [one.undo(), one.go({"fair": F}), one.undo()]), [F, F, T])
        self.assertEqual(all_states(led), [(0, (), (T,))])
        led.trial(lambda one: one.go({"fair": F}))
        self.assertIs(led.undo(), F)


class Twins(unittest.TestCase):
    def test_as_it_is_and_its_own_way(self):
        for told, name, rows in drawn_led(144, 60):
            led = Led(company_of(told), name)
            for level in range(4):
                led.go(truths_at(rows, level))
            twin = led.twin()
            self.assertIsInstance(twin, Led)
            self.assertIsNot(twin, led)
            states = all_states(led)
            self.assertEqual(all_states(twin), states)
            other = {one: not at_level(row, 4) for one, row in rows.items()}
            twin.go(other)
            self.assertEqual(all_states(led), states)
            led.go(truths_at(rows, 4))
            self.assertEqual(all_states(twin)[1:], states)
            self.assertEqual(all_states(led)[1:], states)
            led.undo()
            self.assertEqual(led.go(other), twin.row[-1])
            self.assertEqual(all_states(led), all_states(twin))

    def test_what_can_be_taken_back(self):
        led = Led(of_texts(fair="#him-me"), "fair")
        led.go({"fair": T})
        led.go({"fair": F})
        led.undo()
        twin = led.twin()
        self.assertEqual([twin.undo(), twin.undo()], [T, F])
        self.assertEqual([led.undo(), led.undo()], [T, F])

    def test_twins_of_twins(self):
        led = Led(of_texts(fair="#him-me"), "fair")
        twins = [led]
        for level in range(4):
            twins.append(twins[-1].twin())
            twins[-1].go({"fair": level != 2})
        self.assertEqual([one.row for one in twins], [(T,), (T, T), (T, T, T), (T, T, T, F), (T, T, T, F, F)])


class AtTheLimits(unittest.TestCase):
    def test_ten_boxes_and_three_acts(self):
        text = "((#him-me & #him-bob) | (#~him-al & #(me-him > him-me)))"
        text = "(" + text + " & ((##him-bob > #bob-him) | #(him-al | al-him)))"
        company = of_texts(amy=text, bob="(#him-me | ##~him-me)", al="~#(bob-him & #him-bob)")
        source = random.Random(145)
        for _ in range(20):
            rows = {name: tuple(source.random() < 0.8 for _ in range(30)) for name in met(company, "amy")}
            found = meeting(company, "amy", rows)
            led = Led(company, "amy")
            for level in range(30):
                led.go(truths_at(rows, level))
                self.assertEqual(led.fallen, at_level(found.sets, level + 1))
            self.assertEqual(led.row, tuple(at_level(found.row, level) for level in range(31)))

    def test_a_company_without_choices(self):
        led = Led(Company({"amy": yes()}), "amy")
        self.assertEqual([led.go({"amy": act}) for act in (T, F, T)], [T, T, T])
        self.assertEqual(state(led), (3, (), (T,) * 4))


if __name__ == "__main__":
    unittest.main()
