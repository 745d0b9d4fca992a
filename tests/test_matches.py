"""Points 19 and 20, and 32 of players with one another: acts at levels, and matches."""

import random
import unittest

import oracle
import players
from making import NAMES, company_of, drawn_companies, drawn_with_lacking, of_texts
from boxfall.companies import Company, matches, row_with
from boxfall.errors import NoPlayer
from boxfall.rows import as_saying, height
from boxfall.sayings import Saying, no, yes

T, F = True, False
read = Saying.read


class RowWith(unittest.TestCase):
    def check(self, company, one, other, row):
        found = row_with(company, one, other)
        self.assertEqual(found, row, (one, other))
        self.assertIs(type(found), tuple)
        self.assertTrue(all(truth is True or truth is False for truth in found))

    def test_known_players(self):
        company = of_texts(amy="#him-me", bob="#him-me", yea="yes", nay="no", soft="~#~him-me")
        for one, other, row in (("amy", "bob", (T,)), ("amy", "amy", (T,)), ("bob", "bob", (T,)),
                                ("amy", "yea", (T,)), ("amy", "nay", (T, F)), ("yea", "nay", (T,)),
                                ("nay", "yea", (F,)), ("nay", "nay", (F,)), ("soft", "yea", (F, T)),
                                ("soft", "nay", (F,)), ("soft", "soft", (F,)), ("soft", "amy", (F, T)),
                                ("amy", "soft", (T, F)), ("yea", "soft", (T,))):
            self.check(company, one, other, row)
        self.assertEqual(height(row_with(company, "amy", "bob")), 0)

    def test_arguments(self):
        company = of_texts(amy="#him-me", nay="no")
        self.assertEqual(row_with(company=company, one="amy", other="nay"), (T, F))
        self.assertEqual(row_with(other="amy", one="nay", company=company), (F,))

    def test_me_and_him(self):
        company = of_texts(amy="#me-him", bob="#him-him", al="#me-me", zed="#(him-me & me-bob)", nay="no")
        self.check(company, "amy", "nay", (T,))
        self.check(company, "bob", "nay", (T, F))
        self.check(company, "bob", "amy", (T,))
        self.check(company, "al", "nay", (T,))
        self.check(company, "zed", "amy", (T,))
        self.check(company, "zed", "nay", (T, F))

    def test_players_by_name(self):
        company = of_texts(amy="#bob-zed", bob="#zed-al", zed="##al-bob", al="no")
        self.check(company, "al", "amy", (F,))
        self.check(company, "zed", "amy", (T, T, F))
        self.check(company, "bob", "amy", (T, T, T, F))
        self.check(company, "amy", "amy", (T, T, T, T, F))
        self.check(company, "amy", "al", (T, T, T, T, F))

    def test_rules_of_their_own(self):
        company = of_texts(amy="#him-me", bob="yes", al="#bob-amy")
        self.check(company, "amy", "bob", (T,))
        company["bob", "amy"] = no()
        self.check(company, "amy", "bob", (T, F))
        self.check(company, "bob", "al", (T,))
        self.check(company, "al", "amy", (T, F))
        self.check(company, "al", "bob", (T, F))
        company["amy", "bob"] = read("~#him-me")
        self.check(company, "amy", "bob", (F, T))
        self.check(company, "amy", "amy", (T,))
        company["amy", "amy"] = read("#no")
        self.check(company, "amy", "amy", (T, F))
        company["amy", "amy"] = read("#(me-him & him-me)")
        self.check(company, "amy", "amy", (T,))
        company.drop(("bob", "amy"))
        self.check(company, "al", "bob", (T,))

    def test_with_oneself(self):
        company = of_texts(amy="#him-me", bob="~#him-me", al="~#~him-me", zed="(#me-him > #no)")
        self.check(company, "amy", "amy", (T,))
        self.check(company, "bob", "bob", (F, T))
        self.check(company, "al", "al", (F,))
        self.check(company, "zed", "zed", (T, F, T))

    def test_rows_by_as_saying(self):
        source = random.Random(51)
        for _ in range(60):
            row = oracle.drawn_row(source, 8)
            company = Company({"amy": as_saying(row), "bob": read("#him-me")})
            told = oracle.plain(row)
            self.check(company, "amy", "bob", told)
            self.check(company, "bob", "amy", oracle.row_of(("box", ("letter", "p")), {"p": told}))

    def test_drawn(self):
        source = random.Random(52)
        for told in drawn_companies(53, 300, 9):
            company = company_of(told)
            one, other = source.choice(sorted(told[0])), source.choice(sorted(told[0]))
            self.check(company, one, other, players.row_with(told, one, other))

    def test_late_changes(self):
        for many in range(25):
            company = of_texts(amy="#" * many + "him-me" if many else "no", bob="no")
            self.check(company, "amy", "bob", (T,) * many + (F,))
        names = ("a", "b", "c", "d", "e")
        company = of_texts(f="no", **{name: "#" * 24 + chr(ord(name) + 1) + "-me" for name in names})
        self.check(company, "a", "f", (T,) * 120 + (F,))

    def test_the_company_stays(self):
        for told in drawn_companies(54, 30, 9):
            company = company_of(told)
            twin = company.twin()
            for name in told[0]:
                row_with(company, name, name)
            matches(company)
            self.assertEqual(company, twin)

    def test_later_changes_count(self):
        company = of_texts(amy="#him-me", bob="yes")
        before = row_with(company, "amy", "bob")
        company["bob"] = no()
        self.assertEqual((before, row_with(company, "amy", "bob")), ((T,), (T, F)))


class Lacking(unittest.TestCase):
    def check(self, name, work, *told):
        with self.assertRaises(NoPlayer) as caught:
            work(*told)
        self.assertIs(type(caught.exception), NoPlayer)
        self.assertEqual(caught.exception.name, name)

    def test_first_of_both(self):
        company = of_texts(amy="#aa-me", bob="yes")
        for thing in ("nobody", "x", "me", "him", "yes", "", "Amy", None, 0, True, 2.5, [], ["amy"], (), ("amy", "bob"),
                      {}, {"amy"}, b"amy", object(), yes(), company):
            with self.assertRaises(NoPlayer) as caught:
                row_with(company, thing, "bob")
            self.assertIs(caught.exception.name, thing)
            with self.assertRaises(NoPlayer) as caught:
                row_with(company, "amy", thing)
            self.assertIs(caught.exception.name, thing)
        self.check("zed", row_with, company, "zed", "al")
        self.check("al", row_with, company, "al", "zed")
        self.check("aa", row_with, company, "amy", "bob")

    def test_least_name_that_lacks(self):
        for text, name in (("#zed-me", "zed"), ("#me-zed", "zed"), ("(#zed-al > #cat-him)", "al"), ("#bob-cat", "cat"),
                           ("(#bob-zed | #zed-bob)", "zed"), ("(#him-dog & ##(#cat-him > him-him))", "cat"),
                           ("(yes | #ox-him)", "ox"), ("(no & #(no & me-ox))", "ox"), ("#xx-me", "xx")):
            company = of_texts(amy=text, bob="yes")
            self.check(name, row_with, company, "amy", "bob")
            self.check(name, row_with, company, "amy", "amy")
            self.check(name, matches, company)
            self.assertEqual(row_with(company, "bob", "amy"), (T,))

    def test_only_a_rule_that_is_led_to_speaks_of_it(self):
        company = of_texts(amy="#bob-al", bob="#him-me", al="#me-zed", cat="yes")
        self.check("zed", row_with, company, "amy", "cat")
        self.check("zed", row_with, company, "bob", "al")
        self.assertEqual(row_with(company, "bob", "cat"), (T,))
        company["al", "bob"] = no()
        self.assertEqual(row_with(company, "amy", "cat"), (T, T, F))
        self.check("zed", row_with, company, "al", "amy")
        self.check("zed", matches, company)
        company["al"] = yes()
        self.assertEqual(row_with(company, "al", "amy"), (T,))
        self.assertEqual(len(matches(company)), 16)

    def test_an_act_leads_on_for_one_that_is_no_player(self):
        company = of_texts(amy="#bob-zed", bob="#him-aa", al="yes")
        self.check("aa", row_with, company, "amy", "al")
        company["bob", "zed"] = read("#dog-me")
        self.check("dog", row_with, company, "amy", "al")
        company["bob", "zed"] = read("#me-dog")
        self.check("aa", row_with, company, "amy", "al")
        company["bob", "zed"] = yes()
        self.check("zed", row_with, company, "amy", "al")
        self.check("aa", row_with, company, "bob", "al")

    def test_rules_that_are_not_led_to(self):
        company = of_texts(amy="#him-me", bob="yes", zed="#ghost-me")
        self.assertEqual(row_with(company, "amy", "bob"), (T,))
        self.check("ghost", row_with, company, "amy", "zed")
        company["bob", "zed"] = read("#aa-me")
        self.assertEqual(row_with(company, "amy", "bob"), (T,))
        self.check("aa", matches, company)
        company.drop(("bob", "zed"))
        self.check("ghost", matches, company)
        company.drop("zed")
        self.assertEqual(len(matches(company)), 4)

    def test_rules_of_their_own_for_who_is_no_player(self):
        company = of_texts(amy="#him-me", bob="yes")
        company["amy", "ghost"] = read("#aa-bb")
        self.assertEqual(row_with(company, "amy", "bob"), (T,))
        self.assertEqual(set(matches(company)), {(one, other) for one in ("amy", "bob") for other in ("amy", "bob")})

    def test_rules_in_whose_place_stand_others(self):
        company = of_texts(amy="#ghost-me", bob="yes")
        company["amy", "bob"] = read("#bob-me")
        self.assertEqual(row_with(company, "amy", "bob"), (T,))
        self.check("ghost", row_with, company, "amy", "amy")
        self.check("ghost", matches, company)
        company["amy", "amy"] = no()
        self.assertEqual(matches(company)["amy", "amy"], (F,))

    def test_drawn(self):
        lacking = 0
        for told in drawn_with_lacking(55, 400):
            company = company_of(told)
            acts = [(one, other) for one in told[0] for other in told[0]]
            for act in acts:
                name = players.least_lacking(told, [act])
                if name is not None:
                    self.check(name, row_with, company, *act)
                    lacking += 1
            if players.least_lacking(told, acts) is not None:
                self.check(players.least_lacking(told, acts), matches, company)
        self.assertGreater(lacking, 100)

    def test_the_company_stays(self):
        company = of_texts(amy="#ghost-me", bob="yes")
        company["bob", "ghost"] = no()
        twin = company.twin()
        self.check("ghost", row_with, company, "amy", "bob")
        self.check("ghost", matches, company)
        self.check("ghost", row_with, company, "ghost", "bob")
        self.assertEqual(company, twin)


class Matches(unittest.TestCase):
    def test_told(self):
        company = of_texts(amy="#him-me", nay="no")
        found = matches(company)
        self.assertEqual(found, {("amy", "amy"): (T,), ("amy", "nay"): (T, F),
                                 ("nay", "amy"): (F,), ("nay", "nay"): (F,)})
        self.assertIs(type(found), dict)
        self.assertEqual(matches(company=company), found)
        self.assertEqual(matches(Company()), {})
        self.assertEqual(matches(of_texts(amy="yes")), {("amy", "amy"): (T,)})

    def test_dicts_are_new(self):
        company = of_texts(amy="#him-me", nay="no")
        found = matches(company)
        found.clear()
        self.assertEqual(len(matches(company)), 4)

    def test_drawn(self):
        sizes = set()
        for told in drawn_companies(56, 150, 9):
            company = company_of(told)
            found = matches(company)
            self.assertEqual(found, players.matches(told), told)
            sizes.add(len(told[0]))
            for (one, other), row in found.items():
                self.assertIs(type(row), tuple)
                self.assertEqual(row, row_with(company, one, other))
        self.assertEqual(sizes, {1, 2, 3, 4, 5, 6})

    def test_fair_players_keep_with_one_another(self):
        company = Company({name: read("#him-me") for name in NAMES})
        self.assertEqual(matches(company), {(one, other): (T,) for one in NAMES for other in NAMES})

    def test_many_late_changes(self):
        pairs = [(one, other) for one in NAMES for other in NAMES]
        company = Company({name: no() for name in NAMES})
        for pair, (who, whom) in zip(pairs, pairs[1:]):
            company[pair] = read("#" * 24 + who + "-" + whom)
        company[pairs[-1]] = no()
        found = matches(company)
        for at, pair in enumerate(pairs[::-1]):
            self.assertEqual(found[pair], (T,) * (24 * at) + (F,))


if __name__ == "__main__":
    unittest.main()
