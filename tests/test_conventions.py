"""Points 4 and 5: lists and tuples, names of arguments, nothing changed, the first error."""

import copy
import unittest

from boxfall.always import alike, always, breach, follows, is_paper, reached
from boxfall.companies import Company, matches, row_with
from boxfall.errors import BadForm, BadName, BadRule, BoxError, NoActs, NoPlayer, NoRow
from boxfall.meetings import boxes_with, meeting, met
from boxfall.rows import as_saying, height, plain, row_of
from boxfall.sayings import Saying, act, letter, no, yes

FORM = ("and", ("box", ("if", ("letter", "p"), ("yes",))), ("not", ("act", "me", "him")))
AS_LISTS = ["and", ["box", ["if", ["letter", "p"], ["yes"]]], ["not", ["act", "me", "him"]]]
MIXED = ("and", ["box", ("if", ["letter", "p"], ("yes",))], ["not", ("act", "me", "him")])


class Arguments(unittest.TestCase):
    def test_saying(self):
        for told in (FORM, AS_LISTS, MIXED):
            self.assertEqual(Saying(told).form(), FORM)
            self.assertEqual(Saying(form=told).form(), FORM)

    def test_read(self):
        self.assertEqual(Saying.read("~p").form(), ("not", ("letter", "p")))
        self.assertEqual(Saying.read(text="~p").form(), ("not", ("letter", "p")))

    def test_letter_and_act(self):
        self.assertEqual(letter("p").form(), ("letter", "p"))
        self.assertEqual(letter(name="p").form(), ("letter", "p"))
        self.assertEqual(act("me", "him").form(), ("act", "me", "him"))
        self.assertEqual(act(who="me", whom="him").form(), ("act", "me", "him"))
        self.assertEqual(act(whom="him", who="me").form(), ("act", "me", "him"))

    def test_plain_and_height(self):
        for row in ((False, True, True), [False, True, True]):
            self.assertEqual(plain(row), (False, True))
            self.assertEqual(plain(row=row), (False, True))
            self.assertEqual(height(row), 1)
            self.assertEqual(height(row=row), 1)
            self.assertIsInstance(plain(row), tuple)

    def test_as_saying(self):
        for row in ((False, True), [False, True]):
            self.assertEqual(as_saying(row).text(), "~#no")
            self.assertEqual(as_saying(row=row).text(), "~#no")

    def test_row_of(self):
        for row in ((True, False), [True, False]):
            self.assertEqual(row_of(+letter("p"), {"p": row}), (True, True, False))
            self.assertEqual(row_of(saying=+letter("p"), rows={"p": row}), (True, True, False))
            self.assertIsInstance(row_of(letter("p"), {"p": row}), tuple)

    def test_always(self):
        p, loeb = letter("p"), Saying.read("(#(#p > p) > #p)")
        self.assertEqual(breach(saying=p).rows, {"p": (False,)})
        self.assertTrue(always(saying=loeb))
        self.assertTrue(follows(one=no(), other=p))
        self.assertFalse(follows(other=no(), one=p))
        self.assertTrue(alike(one=p, other=p))
        self.assertEqual(reached(saying=+p), [(), (0,)])
        self.assertTrue(is_paper(saying=loeb, thing=[(), [0, 1]]))
        self.assertTrue(is_paper(thing=((), [0, 1]), saying=loeb))

    def test_companies(self):
        company = Company(rules={"amy": Saying.read("(#him-me & #him-bob)"), "bob": no()})
        self.assertEqual(company.own(name="amy"), [])
        self.assertIsNone(company.drop(key=("amy", "bob")))
        self.assertEqual(row_with(company=company, one="amy", other="bob"), (True, False))
        self.assertEqual(len(matches(company=company)), 4)
        self.assertEqual(met(company=company, name="amy"), ["amy", "bob"])
        self.assertEqual(boxes_with(company=company, name="amy"), ["#x-amy", "#x-bob"])
        for rows in ({"amy": (True,), "bob": [True, False]}, {"amy": [True], "bob": (True, False)}):
            self.assertEqual(meeting(company=company, name="amy", rows=rows).row, (True, True, False))
            self.assertEqual(meeting(rows=rows, name="amy", company=company).end, (False, True))

    def test_wrong_forms_as_lists(self):
        with self.assertRaises(BadForm) as caught:
            Saying(["and", ["yes"], ["not", ["letter", "P"]]])
        self.assertEqual(caught.exception.path, (2, 1, 1))


class Unchanged(unittest.TestCase):
    def test_forms(self):
        told = copy.deepcopy(AS_LISTS)
        Saying(told)
        self.assertEqual(told, AS_LISTS)
        wrong = ["and", ["yes"], ["letter", "P"]]
        with self.assertRaises(BadForm):
            Saying(wrong)
        self.assertEqual(wrong, ["and", ["yes"], ["letter", "P"]])

    def test_rows(self):
        row = [True, False, True, True]
        rows = {"p": row, "q": [False], "r": None}
        saying = Saying.read("(#p & ~q)")
        saying_row = row_of(saying, rows)
        self.assertEqual(saying_row, row_of(saying, rows))
        plain(row), height(row), as_saying(row)
        self.assertEqual(row, [True, False, True, True])
        self.assertEqual(rows, {"p": [True, False, True, True], "q": [False], "r": None})
        with self.assertRaises(NoRow):
            row_of(letter("s"), rows)
        self.assertEqual(rows, {"p": [True, False, True, True], "q": [False], "r": None})

    def test_sayings(self):
        saying = Saying.read("(#p & ~q)")
        row_of(saying, {"p": (True,), "q": (False,)})
        self.assertEqual(saying.text(), "(#p & ~q)")


class LaterChanges(unittest.TestCase):
    def test_form_that_was_passed(self):
        told = copy.deepcopy(AS_LISTS)
        saying = Saying(told)
        told[1][1][1][1] = "q"
        told[2][1] = ["no"]
        told.append(5)
        self.assertEqual(saying.form(), FORM)
        self.assertEqual(saying.text(), "(#(p > yes) & ~me-him)")
        self.assertEqual(len(saying), 7)
        self.assertEqual(saying.letters(), ["p"])

    def test_leaf_that_was_passed(self):
        told = ["letter", "p"]
        saying = Saying(told)
        told[1] = "q"
        self.assertEqual(saying.form(), ("letter", "p"))

    def test_row_that_was_passed(self):
        row = [True, False]
        found = plain(row)
        saying = as_saying(row)
        row[0] = False
        self.assertEqual(found, (True, False))
        self.assertEqual(saying.text(), "#no")

    def test_lists_that_were_returned(self):
        saying = Saying.read("((#p & #q) & me-him)")
        for method in (saying.letters, saying.acts, saying.boxes):
            before = method()
            self.assertIsInstance(before, list)
            self.assertIsNot(before, method())
            kept = list(before)
            before.clear()
            before.append("r")
            self.assertEqual(method(), kept)
        self.assertEqual(saying.text(), "((#p & #q) & me-him)")

    def test_what_was_returned_of_all_rows(self):
        saying = Saying.read("(#p | #q)")
        found = breach(saying)
        told = dict(found.rows)
        found.rows["p"] = None
        found.rows.clear()
        self.assertEqual(breach(saying).rows, told)
        lot = reached(saying)
        lot.remove(())
        self.assertEqual(reached(saying), [(), (0,), (0, 1), (1,)])

    def test_what_was_returned_of_companies(self):
        company = Company({"amy": Saying.read("#him-me"), "bob": no()})
        company["amy", "al"] = yes()
        for work in (company.names, lambda: company.own("amy"), lambda: met(company, "amy"), lambda: matches(company),
                     lambda: boxes_with(company, "amy"), lambda: meeting(company, "amy", {"amy": [False]}).sets):
            before = work()
            kept = copy.copy(before)
            before.clear()
            self.assertEqual(work(), kept)
            self.assertTrue(kept)

    def test_letters_come_back_when_made_anew(self):
        saying = +letter("p")
        rows = {"p": [False]}
        self.assertEqual(row_of(saying, rows), (True, False))
        rows["p"][0] = True
        self.assertEqual(row_of(saying, rows), (True,))


class FirstError(unittest.TestCase):
    def test_acts_ahead_of_rows(self):
        with self.assertRaises(NoActs):
            row_of(Saying.read("(p & me-him)"), {})

    def test_acts_ahead_of_all_else(self):
        for work in (breach, always, reached):
            with self.assertRaises(NoActs):
                work(Saying.read("(p & me-him)"))
        with self.assertRaises(NoActs):
            is_paper(act("me", "him"), None)

    def test_names_then_players_then_rules(self):
        company = Company({"amy": yes()})
        for key, error in ((("al", "x"), BadName), (("al", "bob"), NoPlayer), (("amy", "bob"), BadRule)):
            with self.assertRaises(error):
                company[key] = None

    def test_players_ahead_of_rows(self):
        company = Company({"amy": Saying.read("#him-bob")})
        for name, lacking in (("bob", "bob"), ("amy", "bob")):
            with self.assertRaises(NoPlayer) as caught:
                meeting(company, name, {})
            self.assertEqual(caught.exception.name, lacking)
        company["bob"] = yes()
        with self.assertRaises(NoRow) as caught:
            meeting(company, "amy", {"bob": (True,)})
        self.assertEqual(caught.exception.name, "amy")

    def test_errors_are_box_errors(self):
        for work in (lambda: Saying(5), lambda: Saying.read(""), lambda: row_of(letter("p"), {}),
                     lambda: row_of(act("me", "me"), {}), lambda: Company({5: yes()}), lambda: Company({"amy": 5}),
                     lambda: Company()["amy"], lambda: met(Company(), "amy")):
            with self.assertRaises(BoxError):
                work()

    def test_again_and_again(self):
        saying = Saying.read("(#(p > q) | ~#p)")
        rows = {"p": (True, False), "q": (False, True)}
        self.assertEqual(len({row_of(saying, rows) for _ in range(5)}), 1)
        self.assertEqual((yes().text(), no().text()), ("yes", "no"))


if __name__ == "__main__":
    unittest.main()
