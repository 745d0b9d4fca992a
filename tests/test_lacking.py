"""Points 18 to 21 at the new functions: which NoPlayer is raised, with which object, ahead of all else."""

import random
import unittest

import players
from making import company_of, drawn_with_lacking, of_texts
from boxfall.companies import Company
from boxfall.comparing import best_players, best_row, joint_ends, never_worse, parting, stands_for
from boxfall.errors import NoPlayer
from boxfall.led import Led
from boxfall.mending import mends
from boxfall.sayings import Saying, no, yes
from boxfall.strangers import can_wait, ends, falls, is_safe, is_shield, reached_with

read = Saying.read
WORTH = (1, 3, 0, 2)
NO_PLAYERS = ("nobody", "x", "me", "him", "yes", "no", "", "Amy", "amy ", None, 0, 1, True, 2.5, [], ["amy"],
              ["amy", "bob"], (), ("amy",), ("amy", "bob"), {}, {"amy"}, b"amy", object(), yes(), Company)
# Functions of a company and one name, of a company and two names, and of a company and a list of names.
OF_ONE = (ends, is_safe, reached_with, falls, can_wait, mends, Led,
          lambda company, name: is_shield(company, name, (True, False), [()]),
          lambda company, name: is_shield(company, name, (True, False), None))
OF_TWO = (parting, stands_for, lambda company, one, other: never_worse(company, one, other, WORTH))
OF_NAMES = (joint_ends, lambda company, names: best_row(company, names, WORTH))


class Lacking(unittest.TestCase):
    def check(self, name, work, *told):
        with self.assertRaises(NoPlayer) as caught:
            work(*told)
        self.assertIs(type(caught.exception), NoPlayer)
        self.assertIs(caught.exception.name, name)

    def check_least(self, name, work, *told):
        with self.assertRaises(NoPlayer) as caught:
            work(*told)
        self.assertEqual(caught.exception.name, name)

    def check_all(self, company, one, name):
        """All functions name the least one that lacks for the rule of one with x."""
        for work in OF_ONE:
            self.check_least(name, work, company, one)
        for work in OF_TWO:
            self.check_least(name, work, company, one, one)
        for work in OF_NAMES:
            self.check_least(name, work, company, [one])
            self.check_least(name, work, company, (one, one, one))

    def test_any_object(self):
        company = of_texts(amy="#aa-me", bob="yes")
        for thing in NO_PLAYERS:
            for work in OF_ONE:
                self.check(thing, work, company, thing)
            for work in OF_TWO:
                for one in ("amy", "bob", "zed"):
                    self.check(thing, work, company, thing, one)
                for one in ("amy", "bob"):
                    self.check(thing, work, company, one, thing)
            for work in OF_NAMES:
                for names in ([thing], (thing,), [thing, "amy"], ["amy", thing], ("bob", "amy", thing),
                              ["bob", thing, "zed"]):
                    self.check(thing, work, company, names)

    def test_the_first_of_several(self):
        company = of_texts(amy="#aa-me", bob="yes")
        for work in OF_TWO:
            self.check_least("zed", work, company, "zed", "al")
            self.check_least("al", work, company, "al", "zed")
            self.check_least("zed", work, company, "amy", "zed")
        for work in OF_NAMES:
            self.check_least("zed", work, company, ["bob", "zed", "al"])
            self.check_least("al", work, company, ("al", "amy", "zed"))
            self.check(None, work, company, ["amy", None, "al"])

    def test_an_empty_company(self):
        for work in OF_ONE:
            self.check_least("amy", work, Company(), "amy")
        for work in OF_TWO:
            self.check_least("zed", work, Company(), "zed", "amy")
        for work in OF_NAMES:
            self.check_least("zed", work, Company(), ["zed", "amy"])

    def test_the_least_name_that_a_rule_speaks_of(self):
        for text, name in (("#zed-me", "zed"), ("#him-zed", "zed"), ("#zed-him", "zed"), ("#zed-zed", "zed"),
                           ("(#zed-al > #cat-him)", "al"), ("#(him-him & bob-cat)", "cat"), ("(yes | ##him-ox)", "ox"),
                           ("(no & #(no & me-ox))", "ox"), ("(#xx-him & #him-y)", "xx"), ("#me-ghost", "ghost")):
            company = of_texts(amy=text, bob="yes")
            self.check_all(company, "amy", name)
            self.check_least(name, best_players, company, WORTH)
            for work in OF_TWO:
                self.check_least(name, work, company, "bob", "amy")
            for work in OF_NAMES:
                self.check_least(name, work, company, ["bob", "amy"])
            for work in (ends, mends, Led, is_safe, falls):
                work(company, "bob")

    def test_a_rule_that_is_led_to(self):
        company = of_texts(amy="#bob-him", bob="#al-him", al="#ghost-me", cat="#bob-amy", dog="yes")
        self.check_all(company, "amy", "ghost")
        self.check_all(company, "bob", "ghost")
        company["bob", "amy"] = read("#zed-me")
        self.check_all(company, "cat", "zed")
        self.check_all(company, "amy", "ghost")
        company["bob", "amy"] = yes()
        company["al"] = read("#him-me")
        for name in company.names():
            ends(company, name), Led(company, name), joint_ends(company, [name])
        company["al", "bob"] = read("#ghost-me")
        for name in company.names():
            self.assertIsNone(parting(company, name, name))

    def test_the_least_of_both_and_of_all(self):
        company = of_texts(amy="#zed-me", bob="#al-me", cat="#dog-me", dog="#xi-me")
        for work in OF_TWO:
            self.check_least("al", work, company, "amy", "bob")
            self.check_least("al", work, company, "bob", "amy")
            self.check_least("xi", work, company, "cat", "amy")
        for work in OF_NAMES:
            self.check_least("al", work, company, ["amy", "cat", "bob"])
            self.check_least("xi", work, company, ("amy", "cat"))
        self.check_least("al", best_players, company, WORTH)
        company["bob"] = yes()
        self.check_least("xi", best_players, company, WORTH)

    def test_best_players_goes_by_rules_with_the_stranger(self):
        company = of_texts(amy="#him-me", bob="no")
        company["amy", "bob"] = read("#ghost-me")
        self.assertEqual(best_players(company, WORTH), ["bob"])
        company["bob"] = read("(no & #amy-bob)")
        self.check_least("ghost", best_players, company, WORTH)

    def test_mends_with_itself(self):
        # With x the rule speaks of players alone; with itself it leads by amy's act with bob to another rule.
        company = of_texts(amy="#him-bob", bob="yes")
        company["amy", "bob"] = read("#(yes | ghost-me)")
        self.assertEqual(is_safe(company, "amy"), False)
        self.check_least("ghost", mends, company, "amy")
        company["amy"] = read("(#him-bob | #zed-me)")
        self.check_least("ghost", mends, company, "amy")
        self.check_least("zed", ends, company, "amy")
        company["amy", "amy"] = read("#aa-bb")
        self.check_least("aa", mends, company, "amy")
        company["amy", "amy"] = yes()
        self.check_least("zed", mends, company, "amy")
        company["amy"] = read("#yes")
        self.assertEqual([one.text() for one in mends(company, "amy")], ["#him-me", "#no", "~yes"])

    def test_ahead_of_all_else(self):
        company = of_texts(amy="#ghost-me", bob="yes")
        for name, lacking in (("zed", "zed"), ("amy", "ghost")):
            for end, thing in (((True, False), None), ((True, False), [(), ()]), ((False, False), []), ([], {})):
                self.check_least(lacking, is_shield, company, name, end, thing)
            self.check_least(lacking, never_worse, company, name, "amy", (0, 0, 0, 0))
            self.check_least(lacking, never_worse, company, name, name, (0, 0, 0, 0))
            self.check_least(lacking, best_row, company, [name], (0, 0, 0, 0))

    def test_drawn(self):
        lacking = 0
        source = random.Random(151)
        for told in drawn_with_lacking(152, 250):
            company = company_of(told)
            names = sorted(told[0])
            least = players.least_lacking(told, [(name, "x") for name in names])
            if least is not None:
                self.check_least(least, best_players, company, WORTH)
            for _ in range(2 if names else 0):
                some = [source.choice(names) for _ in range(source.randint(1, 3))]
                least = players.least_lacking(told, [(name, "x") for name in some])
                itself = players.least_lacking(told, [(some[0], "x"), (some[0], some[0])])
                if least is not None:
                    lacking += 1
                    for work in OF_NAMES:
                        self.check_least(least, work, company, some)
                    for work in OF_TWO if len(some) == 2 else ():
                        self.check_least(least, work, company, *some)
                    for work in [work for work in OF_ONE if work is not mends] if len(some) == 1 else ():
                        self.check_least(least, work, company, *some)
                if itself is not None:
                    self.check_least(itself, mends, company, some[0])
        self.assertGreater(lacking, 100)

    def test_the_company_stays(self):
        company = of_texts(amy="#ghost-me", bob="yes")
        company["bob", "ghost"] = no()
        twin = company.twin()
        self.check_all(company, "amy", "ghost")
        self.check_least("ghost", best_players, company, WORTH)
        self.assertEqual(company, twin)


if __name__ == "__main__":
    unittest.main()
