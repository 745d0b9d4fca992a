"""Point 30: changes of one sign of a rule, and those of them that mend a player."""

import random
import unittest

import against
import oracle
import players
from making import NAMES, company_of, drawn_with_lacking, of_texts
from boxfall.companies import row_with
from boxfall.errors import NoPlayer
from boxfall.mending import changes, mends
from boxfall.meetings import boxes_with
from boxfall.sayings import Saying, yes
from boxfall.strangers import is_safe

T, F = True, False
read = Saying.read
WORDS = ("me", "him", "bob", "al")


def texts(sayings):
    return [saying.text() for saying in sayings]


class Changes(unittest.TestCase):
    def check(self, text, told):
        found = changes(read(text))
        self.assertEqual(texts(found), told)
        self.assertEqual(found, [read(one) for one in told])
        self.assertEqual(texts(changes(rule=read(text))), told)
        self.assertIs(type(found), list)
        self.assertTrue(all(type(one) is Saying for one in found))

    def test_constants(self):
        # An act outside of boxes is no rule.
        self.check("yes", ["no"])
        self.check("no", ["yes"])
        self.check("~yes", ["#yes", "~no"])
        self.check("#yes", ["#him-me", "#me-him", "#no", "~yes"])
        self.check("#no", ["#him-me", "#me-him", "#yes", "~no"])

    def test_acts(self):
        # The box cannot be taken away from an act.
        self.check("#him-me", ["#me-him", "#no", "#yes"])
        self.check("#me-him", ["#him-me", "#no", "#yes"])
        for act in ("me-me", "him-him", "bob-me", "him-bob", "bob-al", "me-bob"):
            self.check("#" + act, ["#him-me", "#me-him", "#no", "#yes"])

    def test_not_and_box(self):
        self.check("~#him-me", ["##him-me", "~#me-him", "~#no", "~#yes"])
        self.check("##him-me", ["##me-him", "##no", "##yes", "#~him-me", "~#him-me"])
        self.check("#~him-me", ["##him-me", "#~me-him", "#~no", "#~yes"])
        self.check("~~no", ["#~no", "~#no", "~~yes"])

    def test_and_or_if(self):
        self.check("(yes & no)", ["(no & no)", "(yes & yes)", "(yes > no)", "(yes | no)"])
        self.check("(yes | no)", ["(no | no)", "(yes & no)", "(yes > no)", "(yes | yes)"])
        self.check("(yes > no)", ["(no > no)", "(yes & no)", "(yes > yes)", "(yes | no)"])
        self.check("#(him-me > no)", ["#(him-me & no)", "#(him-me > him-me)", "#(him-me > me-him)", "#(him-me > yes)",
                                      "#(him-me | no)", "#(me-him > no)", "#(no > no)", "#(yes > no)"])

    def test_both_of_two_like_signs(self):
        self.check("#(no & no)", ["#(him-me & no)", "#(me-him & no)", "#(no & him-me)", "#(no & me-him)",
                                  "#(no & yes)", "#(no > no)", "#(no | no)", "#(yes & no)", "~(no & no)"])

    def test_none_that_is_no_rule(self):
        for text in ("(#him-me & ~#bob-him)", "(yes > #(no | him-me))", "~(#him-him | no)"):
            for one in changes(read(text)):
                self.assertTrue(against.is_rule(one.form()), one.text())
        self.assertNotIn("(~him-me & ~#bob-him)", texts(changes(read("(#him-me & ~#bob-him)"))))
        self.assertIn("~(#him-him | yes)", texts(changes(read("~(#him-him | no)"))))
        self.assertNotIn("~(#him-him | him-me)", texts(changes(read("~(#him-him | no)"))))

    def test_new_each_time(self):
        rule = read("(#him-me & #bob-him)")
        found = changes(rule)
        kept = texts(found)
        found.clear()
        self.assertEqual(texts(changes(rule)), kept)
        self.assertEqual(rule, read("(#him-me & #bob-him)"))

    def test_all_small_rules(self):
        leaves = (("no",), ("act", "him", "me"), ("act", "bob", "al"))
        for form in oracle.forms(4, leaves):
            if against.is_rule(form):
                self.check(oracle.text_of(form), [oracle.text_of(one) for one in against.changes(form)])

    def test_drawn(self):
        source = random.Random(131)
        for _ in range(150):
            form = players.drawn_rule(source, source.randint(1, 60), WORDS)
            found = texts(changes(Saying(form)))
            self.assertEqual(found, [oracle.text_of(one) for one in against.changes(form)])
            self.assertEqual(found, sorted(set(found)))
            self.assertNotIn(oracle.text_of(form), found)


class Mends(unittest.TestCase):
    def check(self, company, name, told):
        twin = company.twin()
        found = mends(company, name)
        self.assertEqual(texts(found), told)
        self.assertEqual(found, mends(name=name, company=company))
        self.assertEqual(company, twin)
        for one in found:
            twin[name] = one
            self.assertTrue(is_safe(twin, name))
            self.assertIs(row_with(twin, name, name)[-1], T)

    def test_known_players(self):
        company = of_texts(fair="#him-me", soft="~#~him-me", yea="yes", nay="no", one="#yes")
        for name, told in (("fair", []), ("soft", []), ("yea", []), ("nay", []), ("one", ["#him-me"])):
            self.check(company, name, told)

    def test_a_sign_put_right(self):
        # A fair one with a twist: it keeps with itself again and is safe.
        self.check(of_texts(amy="(#him-me & #no)"), "amy", ["(#him-me & #him-me)", "(#him-me & #me-him)",
                                                            "(#him-me & #yes)", "(#him-me & ~no)",
                                                            "(#him-me | #no)"])
        self.check(of_texts(amy="##him-him", bob="no"), "amy", ["##him-me"])
        self.check(of_texts(amy="(#him-me | yes)"), "amy", ["(#him-me & yes)", "(#him-me | no)"])

    def test_none(self):
        self.check(of_texts(amy="~yes", bob="yes"), "amy", [])
        self.check(of_texts(amy="((yes & yes) & (yes & yes))"), "amy", [])

    def test_acts_with_others_count(self):
        company = of_texts(amy="(#him-bob & #yes)", bob="yes")
        self.check(company, "amy", ["(#him-bob & #him-me)", "(#him-me & #yes)"])
        company["amy", "bob"] = read("#no")
        self.check(company, "amy", ["(#him-me & #yes)"])

    def test_rules_of_its_own(self):
        company = of_texts(amy="#yes", bob="yes")
        company["amy", "bob"] = read("no")
        self.check(company, "amy", ["#him-me"])
        company["amy", "amy"] = read("#no")
        self.check(company, "amy", [])
        company["amy", "amy"] = yes()
        self.check(company, "amy", ["#him-me", "#no", "~yes"])

    def test_rules_of_their_own_of_others(self):
        company = of_texts(amy="(#bob-me & (#him-me | no))", bob="no")
        told = ["(#bob-me | (#him-me | no))", "(#him-me & (#him-me | no))", "(#me-him & (#him-me | no))",
                "(#yes & (#him-me | no))"]
        self.check(company, "amy", told)
        company["bob", "amy"] = yes()
        told[0] = "(#bob-me > (#him-me | no))"
        self.check(company, "amy", told)

    def test_a_change_leads_to_a_name_that_is_no_player(self):
        # As it is, bob's rule for amy does not count; where amy's says `him-me`, it does by amy's act with bob.
        company = of_texts(amy="((#me-bob | yes) & #yes)", bob="no")
        company["bob", "amy"] = read("#(ghost-me | yes)")
        self.assertEqual(boxes_with(company, "amy"), ["#amy-bob", "#yes"])
        self.check(company, "amy", [])
        company["ghost"] = read("no")
        self.check(company, "amy", ["((#me-bob | yes) & #him-me)"])
        company.drop("ghost")
        company["bob", "amy"] = yes()
        self.check(company, "amy", ["((#me-bob | yes) & #him-me)"])

    def test_only_the_way_to_itself_leads_to_such_a_name(self):
        # The change is safe; with itself it would lead by `me-bob`, `him-me` to bob's rule for amy.
        company = of_texts(amy="#yes", bob="no")
        company["amy", "amy"] = read("(#yes & #(me-bob > yes))")
        company["bob", "amy"] = read("#(ghost-me | yes)")
        self.check(company, "amy", ["#no", "~yes"])
        company["ghost"] = read("no")
        self.check(company, "amy", ["#him-me", "#no", "~yes"])

    def test_more_boxes_with_a_change(self):
        company = of_texts(amy="((#me-bob | yes) & #yes)", bob="yes", al="yes", zed="yes")
        for one, other in (("bob", "amy"), ("al", "bob"), ("zed", "al"), ("bob", "zed")):
            follows = {"bob": "al-bob", "al": "zed-al", "zed": "bob-zed"}[one]
            company[one, other] = read("#" * 23 + follows)
        company["bob", "zed"] = yes()
        told = {name: company[name].form() for name in company.names()}, {
            (name, other): company[name, other].form() for name in company.names() for other in company.own(name)}
        changed = company.twin()
        changed["amy"] = read("((#me-bob | yes) & #him-me)")
        self.assertEqual((len(boxes_with(company, "amy")), len(boxes_with(changed, "amy"))), (2, 72))
        self.check(company, "amy", ["((#me-bob | yes) & #him-me)"])
        self.assertEqual(against.mends(told, "amy"), [read("((#me-bob | yes) & #him-me)").form()])

    def test_drawn(self):
        source = random.Random(132)
        counts = []
        for _ in range(150):
            told, (name,) = against.drawn(source, NAMES, 9, 3)
            if len(players.boxes_that_count(told, [(name, name)])) <= 40:
                found = [one.form() for one in mends(company_of(told), name)]
                self.assertEqual(found, against.mends(told, name), (told, name))
                counts.append(len(found))
        self.assertGreater(len([count for count in counts if count]), 25)
        self.assertIn(0, counts)

    def test_drawn_with_names_that_lack(self):
        source = random.Random(133)
        lacking = 0
        for told in drawn_with_lacking(134, 250):
            if not told[0]:
                continue
            name = source.choice(sorted(told[0]))
            acts = [(name, "x"), (name, name)]
            least = players.least_lacking(told, acts)
            if len(players.boxes_that_count(told, acts)) <= 15:
                if least is None:
                    self.assertEqual([one.form() for one in mends(company_of(told), name)], against.mends(told, name))
                else:
                    with self.assertRaises(NoPlayer) as caught:
                        mends(company_of(told), name)
                    self.assertEqual(caught.exception.name, least)
                    lacking += 1
        self.assertGreater(lacking, 20)

    def test_at_the_limits(self):
        text = "((#him-me & #him-bob) | (#~him-al & #(me-him > him-me)))"
        text = "(" + text + " & ((##him-bob > #bob-him) | #(him-al | al-him)))"
        for _ in range(4):
            text = "(" + text + " & (##him-bob | #him-me))"
        company = of_texts(amy=text, bob="(#him-me | ##~him-me)", al="~#(bob-him & #him-bob)", **{
            name: "((#" + "~#" * 20 + "him-me & #al-him) | (#him-bob > ##me-al))" for name in ("xi", "y", "zed")})
        told = {name: company[name].form() for name in company.names()}, {}
        self.assertEqual((against.size_of(told, ["amy"], {}), len(company["amy"])), ((10, 3), 54))
        self.check(company, "amy", [oracle.text_of(form) for form in against.mends(told, "amy")])


if __name__ == "__main__":
    unittest.main()
