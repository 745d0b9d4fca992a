"""Points 4 and 5: lists and tuples, names of arguments, nothing changed, the first error."""

import copy
import unittest

from boxfall.always import alike, always, breach, follows, is_paper, reached
from boxfall.companies import Company, matches, row_with
from boxfall.comparing import best_players, best_row, joint_ends, never_worse, parting, stands_for
from boxfall.errors import BadForm, BadName, BadRule, BadTruth, BoxError, NoActs, NoPlayer, NoRow
from boxfall.led import Led
from boxfall.meetings import boxes_with, meeting, met
from boxfall.mending import changes, mends
from boxfall.rows import as_saying, height, plain, row_of
from boxfall.sayings import Saying, act, letter, no, yes
from boxfall.strangers import can_wait, ends, falls, is_safe, is_shield, reached_with

FORM = ("and", ("box", ("if", ("letter", "p"), ("yes",))), ("not", ("act", "me", "him")))
AS_LISTS = ["and", ["box", ["if", ["letter", "p"], ["yes"]]], ["not", ["act", "me", "him"]]]
MIXED = ("and", ["box", ("if", ["letter", "p"], ("yes",))], ["not", ("act", "me", "him")])


class Arguments(unittest.TestCase):
    def test_saying(self):
        for told in (FORM, AS_LISTS, MIXED):
            self.assertEqual(Saying(told).form(), FORM)
            self.assertEqual(Saying(form=told).form(), FORM)

    def test_read(self):
        self.assertEqual(Saying.read("~p").form(), ("not", ("letter", "p")))
        self.assertEqual(Saying.read(text="~p").form(), ("not", ("letter", "p")))

    def test_letter_and_act(self):
        self.assertEqual(letter("p").form(), ("letter", "p"))
        self.assertEqual(letter(name="p").form(), ("letter", "p"))
        self.assertEqual(act("me", "him").form(), ("act", "me", "him"))
        self.assertEqual(act(who="me", whom="him").form(), ("act", "me", "him"))
        self.assertEqual(act(whom="him", who="me").form(), ("act", "me", "him"))

    def test_plain_and_height(self):
        for row in ((False, True, True), [False, True, True]):
            self.assertEqual(plain(row), (False, True))
            self.assertEqual(plain(row=row), (False, True))
            self.assertEqual(height(row), 1)
            self.assertEqual(height(row=row), 1)
            self.assertIsInstance(plain(row), tuple)

    def test_as_saying(self):
        for row in ((False, True), [False, True]):
            self.assertEqual(as_saying(row).text(), "~#no")
            self.assertEqual(as_saying(row=row).text(), "~#no")

    def test_row_of(self):
        for row in ((True, False), [True, False]):
            self.assertEqual(row_of(+letter("p"), {"p": row}), (True, True, False))
            self.assertEqual(row_of(saying=+letter("p"), rows={"p": row}), (True, True, False))
            self.assertIsInstance(row_of(letter("p"), {"p": row}), tuple)

    def test_always(self):
        p, loeb = letter("p"), Saying.read("(#(#p > p) > #p)")
        self.assertEqual(breach(saying=p).rows, {"p": (False,)})
        self.assertTrue(always(saying=loeb))
        self.assertTrue(follows(one=no(), other=p))
        self.assertFalse(follows(other=no(), one=p))
        self.assertTrue(alike(one=p, other=p))
        self.assertEqual(reached(saying=+p), [(), (0,)])
        self.assertTrue(is_paper(saying=loeb, thing=[(), [0, 1]]))
        self.assertTrue(is_paper(thing=((), [0, 1]), saying=loeb))

    def test_companies(self):
        company = Company(rules={"amy": Saying.read("(#him-me & #him-bob)"), "bob": no()})
        self.assertEqual(company.own(name="amy"), [])
        self.assertIsNone(company.drop(key=("amy", "bob")))
        self.assertEqual(row_with(company=company, one="amy", other="bob"), (True, False))
        self.assertEqual(len(matches(company=company)), 4)
        self.assertEqual(met(company=company, name="amy"), ["amy", "bob"])
        self.assertEqual(boxes_with(company=company, name="amy"), ["#x-amy", "#x-bob"])
        for rows in ({"amy": (True,), "bob": [True, False]}, {"amy": [True], "bob": (True, False)}):
            self.assertEqual(meeting(company=company, name="amy", rows=rows).row, (True, True, False))
            self.assertEqual(meeting(rows=rows, name="amy", company=company).end, (False, True))

    def test_strangers(self):
        company = Company({"amy": Saying.read("#him-me")})
        for work, told in ((ends, {(False, False): {"amy": (False,)}, (False, True): {"amy": (False, True)},
                                   (True, True): {"amy": (True,)}}),
                           (is_safe, True), (reached_with, [(), (0,)]), (falls, 1), (can_wait, True)):
            self.assertEqual(work(company, "amy"), told)
            self.assertEqual(work(company=company, name="amy"), told)
            self.assertEqual(work(name="amy", company=company), told)
        for end in ((True, False), [True, False]):
            for thing in ([(), (0,)], ((), [0]), [[], [0]]):
                self.assertTrue(is_shield(company, "amy", end, thing))
                self.assertTrue(is_shield(thing=thing, end=end, name="amy", company=company))

    def test_comparing(self):
        company = Company({"amy": Saying.read("#him-me"), "bob": yes()})
        self.assertEqual(parting(company, "amy", "bob").pair, (False, True))
        self.assertEqual(parting(other="amy", one="bob", company=company).pair, (True, False))
        self.assertFalse(stands_for(company=company, one="amy", other="bob"))
        for worth in ((1, 3, 0, 2), [1, 3, 0, 2]):
            self.assertEqual(never_worse(company, "bob", "amy", worth), {"amy": (False,)})
            self.assertIsNone(never_worse(worth=worth, other="bob", one="amy", company=company))
            self.assertEqual(best_players(worth=worth, company=company), ["amy"])
            for names in (("amy", "bob"), ["amy", "bob"]):
                self.assertEqual(best_row(company, names, worth), (4, (False,)))
                self.assertEqual(best_row(worth=worth, names=names, company=company), (4, (False,)))
                self.assertEqual(len(joint_ends(names=names, company=company)), 3)

    def test_mending_and_led(self):
        company = Company({"amy": Saying.read("#yes")})
        self.assertEqual(len(changes(rule=company["amy"])), 4)
        self.assertEqual(mends(name="amy", company=company), mends(company, "amy"))
        led = Led(name="amy", company=company)
        self.assertTrue(led.go(truths={"amy": False}))
        self.assertEqual(led.trial(work=lambda told: told.level), 1)

    def test_wrong_forms_as_lists(self):
        with self.assertRaises(BadForm) as caught:
            Saying(["and", ["yes"], ["not", ["letter", "P"]]])
        self.assertEqual(caught.exception.path, (2, 1, 1))


class Unchanged(unittest.TestCase):
    def test_forms(self):
        told = copy.deepcopy(AS_LISTS)
        Saying(told)
        self.assertEqual(told, AS_LISTS)
        wrong = ["and", ["yes"], ["letter", "P"]]
        with self.assertRaises(BadForm):
            Saying(wrong)
        self.assertEqual(wrong, ["and", ["yes"], ["letter", "P"]])

    def test_rows(self):
        row = [True, False, True, True]
        rows = {"p": row, "q": [False], "r": None}
        saying = Saying.read("(#p & ~q)")
        saying_row = row_of(saying, rows)
        self.assertEqual(saying_row, row_of(saying, rows))
        plain(row), height(row), as_saying(row)
        self.assertEqual(row, [True, False, True, True])
        self.assertEqual(rows, {"p": [True, False, True, True], "q": [False], "r": None})
        with self.assertRaises(NoRow):
            row_of(letter("s"), rows)
        self.assertEqual(rows, {"p": [True, False, True, True], "q": [False], "r": None})

    def test_sayings(self):
        saying = Saying.read("(#p & ~q)")
        row_of(saying, {"p": (True,), "q": (False,)})
        self.assertEqual(saying.text(), "(#p & ~q)")


class LaterChanges(unittest.TestCase):
    def test_form_that_was_passed(self):
        told = copy.deepcopy(AS_LISTS)
        saying = Saying(told)
        told[1][1][1][1] = "q"
        told[2][1] = ["no"]
        told.append(5)
        self.assertEqual(saying.form(), FORM)
        self.assertEqual(saying.text(), "(#(p > yes) & ~me-him)")
        self.assertEqual(len(saying), 7)
        self.assertEqual(saying.letters(), ["p"])

    def test_leaf_that_was_passed(self):
        told = ["letter", "p"]
        saying = Saying(told)
        told[1] = "q"
        self.assertEqual(saying.form(), ("letter", "p"))

    def test_row_that_was_passed(self):
        row = [True, False]
        found = plain(row)
        saying = as_saying(row)
        row[0] = False
        self.assertEqual(found, (True, False))
        self.assertEqual(saying.text(), "#no")

    def test_lists_that_were_returned(self):
        saying = Saying.read("((#p & #q) & me-him)")
        for method in (saying.letters, saying.acts, saying.boxes):
            before = method()
            self.assertIsInstance(before, list)
            self.assertIsNot(before, method())
            kept = list(before)
            before.clear()
            before.append("r")
            self.assertEqual(method(), kept)
        self.assertEqual(saying.text(), "((#p & #q) & me-him)")

    def test_what_was_returned_of_all_rows(self):
        saying = Saying.read("(#p | #q)")
        found = breach(saying)
        told = dict(found.rows)
        found.rows["p"] = None
        found.rows.clear()
        self.assertEqual(breach(saying).rows, told)
        lot = reached(saying)
        lot.remove(())
        self.assertEqual(reached(saying), [(), (0,), (0, 1), (1,)])

    def test_what_was_returned_of_companies(self):
        company = Company({"amy": Saying.read("#him-me"), "bob": no()})
        company["amy", "al"] = yes()
        for work in (company.names, lambda: company.own("amy"), lambda: met(company, "amy"), lambda: matches(company),
                     lambda: boxes_with(company, "amy"), lambda: meeting(company, "amy", {"amy": [False]}).sets):
            before = work()
            kept = copy.copy(before)
            before.clear()
            self.assertEqual(work(), kept)
            self.assertTrue(kept)

    def test_what_was_returned_of_strangers(self):
        company = Company({"amy": Saying.read("(#him-me & #him-bob)"), "bob": yes(), "al": Saying.read("#yes")})
        worth = (1, 3, 0, 2)
        for work in (lambda: ends(company, "amy"), lambda: ends(company, "amy")[False, False],
                     lambda: reached_with(company, "amy"), lambda: parting(company, "amy", "bob").rows,
                     lambda: never_worse(company, "bob", "amy", worth), lambda: best_players(company, worth),
                     lambda: joint_ends(company, ["amy", "bob"]), lambda: changes(company["amy"]),
                     lambda: mends(company, "al")):
            before = work()
            kept = copy.copy(before)
            self.assertTrue(kept)
            before.clear()
            self.assertEqual(work(), kept)

    def test_what_was_passed_to_strangers(self):
        company = Company({"amy": Saying.read("(#him-me & #him-bob)"), "bob": yes()})
        twin = company.twin()
        things = [["amy", "bob"], [1, 3, 0, 2], [True, False], [[], [0], [1], [0, 1]]]
        kept_things = copy.deepcopy(things)
        names, worth, end, lot = things
        told = [joint_ends(company, names), best_row(company, names, worth), never_worse(company, "bob", "amy", worth),
                is_shield(company, "amy", end, lot)]
        kept = copy.deepcopy(told)
        self.assertEqual(things, kept_things)
        self.assertEqual(company, twin)
        for thing in things:
            thing.clear()
        company.drop("bob")
        self.assertEqual(told, kept)

    def test_letters_come_back_when_made_anew(self):
        saying = +letter("p")
        rows = {"p": [False]}
        self.assertEqual(row_of(saying, rows), (True, False))
        rows["p"][0] = True
        self.assertEqual(row_of(saying, rows), (True,))


class FirstError(unittest.TestCase):
    def test_acts_ahead_of_rows(self):
        with self.assertRaises(NoActs):
            row_of(Saying.read("(p & me-him)"), {})

    def test_acts_ahead_of_all_else(self):
        for work in (breach, always, reached):
            with self.assertRaises(NoActs):
                work(Saying.read("(p & me-him)"))
        with self.assertRaises(NoActs):
            is_paper(act("me", "him"), None)

    def test_names_then_players_then_rules(self):
        company = Company({"amy": yes()})
        for key, error in ((("al", "x"), BadName), (("al", "bob"), NoPlayer), (("amy", "bob"), BadRule)):
            with self.assertRaises(error):
                company[key] = None

    def test_players_ahead_of_rows(self):
        company = Company({"amy": Saying.read("#him-bob")})
        for name, lacking in (("bob", "bob"), ("amy", "bob")):
            with self.assertRaises(NoPlayer) as caught:
                meeting(company, name, {})
            self.assertEqual(caught.exception.name, lacking)
        company["bob"] = yes()
        with self.assertRaises(NoRow) as caught:
            meeting(company, "amy", {"bob": (True,)})
        self.assertEqual(caught.exception.name, "amy")

    def test_rows_ahead_of_truths(self):
        led = Led(Company({"amy": Saying.read("#him-bob"), "bob": yes()}), "amy")
        for truths, error, name in (({}, NoRow, "amy"), ({"amy": 5}, NoRow, "bob"),
                                    ({"amy": 5, "bob": 5}, BadTruth, "amy"),
                                    ({"amy": True, "bob": 5}, BadTruth, "bob")):
            with self.assertRaises(error) as caught:
                led.go(truths)
            self.assertEqual(caught.exception.name, name)

    def test_players_ahead_of_lots(self):
        company = Company({"amy": Saying.read("#him-bob")})
        for name in ("amy", "bob"):
            with self.assertRaises(NoPlayer) as caught:
                is_shield(company, name, (True, False), None)
            self.assertEqual(caught.exception.name, "bob")

    def test_errors_are_box_errors(self):
        for work in (lambda: Saying(5), lambda: Saying.read(""), lambda: row_of(letter("p"), {}),
                     lambda: row_of(act("me", "me"), {}), lambda: Company({5: yes()}), lambda: Company({"amy": 5}),
                     lambda: Company()["amy"], lambda: met(Company(), "amy")):
            with self.assertRaises(BoxError):
                work()

    def test_again_and_again(self):
        saying = Saying.read("(#(p > q) | ~#p)")
        rows = {"p": (True, False), "q": (False, True)}
        self.assertEqual(len({row_of(saying, rows) for _ in range(5)}), 1)
        self.assertEqual((yes().text(), no().text()), ("yes", "no"))


if __name__ == "__main__":
    unittest.main()
