"""Point 18: companies, what is put in and taken out, and the errors at each door."""

import unittest

from boxfall.companies import Company
from boxfall.errors import BadName, BadRule, NoPlayer
from boxfall.sayings import Saying, act, letter, no, yes

T, F = True, False
read = Saying.read
FAIR = read("#him-me")
SOFT = read("~#~him-me")
NO_NAMES = ("", "yes", "no", "me", "him", "x", "abcdefghi", "a" * 1000, "Amy", "aMy", "amy1", "1", "amy bob", " amy",
            "amy ", "amy\n", "amy-bob", "a_b", "\u00e9", "\u00df", "\uff41", "~amy", "`", "{", None, True, False, 0, 1,
            -7, 2.5, b"amy", (), ("amy",), ("amy", "bob", "al"), ("amy", "bob", "al", "zed"), object(), frozenset(),
            int)
# What cannot be a key of a dict can still be between the brackets.
NO_KEYS = ([], ["amy"], ["amy", "bob"], ["amy", "bob", "al"], {}, {"amy": 1}, {"amy"}, set(), bytearray(b"amy"), yes())
GOOD_NAMES = ("a", "z", "amy", "azazazaz", "abcdefgh", "and", "or", "if", "not", "box", "letter", "act", "yess", "xx",
              "y", "mee", "hi", "hims", "noo", "xy")
NO_RULES = (letter("p"), +letter("p"), read("(#him-me | #p)"), read("(#(q & him-me) > yes)"), read("me-him"),
            read("bob-amy"), read("~me-me"), read("(#him-me & him-me)"), read("(yes | bob-bob)"),
            read("(#p & him-me)"), None, True, False, 0, 1, "", "yes", "#him-me", b"yes", ("yes",), ["yes"], (), [], {},
            set(), object(), Saying, ("box", ("act", "him", "me")), Company())
RULES = ("yes", "no", "~yes", "#no", "#him-me", "~#~him-me", "#me-him", "#(him-me & amy-bob)", "##(bob-zed > me-me)",
         "(#him-him | ~#amy-me)", "(yes & #ghost-him)")


def company():
    return Company({"bob": yes(), "amy": FAIR, "zed": no()})


def state(told):
    """All that can be read of a company."""
    return [(name, told[name].text(), [(other, told[name, other].text()) for other in told.own(name)])
            for name in told.names()]


class Doors(unittest.TestCase):
    def check(self, error, attributes, work, *told):
        with self.assertRaises(error) as caught:
            work(*told)
        self.assertIs(type(caught.exception), error)
        for name, thing in attributes.items():
            self.assertIs(getattr(caught.exception, name), thing)


def put(told, key, rule):
    told[key] = rule


def take(told, key):
    return told[key]


class Putting(unittest.TestCase):
    def test_empty(self):
        for told in (Company(), Company(None), Company({}), Company(rules=None), Company(rules={})):
            self.assertEqual(len(told), 0)
            self.assertEqual(told.names(), [])
            self.assertEqual(told, Company())

    def test_made_of_rules(self):
        told = company()
        self.assertEqual(told.names(), ["amy", "bob", "zed"])
        self.assertEqual(len(told), 3)
        self.assertEqual(told["amy"], FAIR)
        self.assertEqual(told["bob"], yes())
        self.assertEqual(told["zed"], no())
        self.assertEqual(Company(rules={"amy": SOFT})["amy"], SOFT)

    def test_good_names_and_rules(self):
        for name in GOOD_NAMES:
            told = Company({name: FAIR})
            self.assertEqual(told.names(), [name])
            told[name, name] = no()
            told[name, "other"] = yes()
            self.assertEqual(told.own(name), sorted({name, "other"}))
            self.assertIn(name, told)
        for text in RULES:
            told = Company({"amy": read(text)})
            told["bob"] = read(text)
            told["bob", "amy"] = read(text)
            self.assertEqual([told["amy"], told["bob"], told["bob", "amy"]], [read(text)] * 3)
            self.assertIsInstance(told["amy"], Saying)

    def test_put_in_and_given_another_rule(self):
        told = Company()
        told["bob"] = FAIR
        told["amy"] = no()
        self.assertEqual(state(told), [("amy", "no", []), ("bob", "#him-me", [])])
        told["bob"] = yes()
        self.assertEqual(state(told), [("amy", "no", []), ("bob", "yes", [])])
        self.assertEqual(len(told), 2)

    def test_rules_of_its_own_stay(self):
        told = company()
        told["amy", "bob"] = no()
        told["amy", "nobody"] = yes()
        told["amy"] = SOFT
        self.assertEqual(told["amy"], SOFT)
        self.assertEqual(told["amy", "bob"], no())
        self.assertEqual(told["amy", "nobody"], yes())
        self.assertEqual(told.own("amy"), ["bob", "nobody"])

    def test_rules_of_its_own(self):
        told = company()
        for other in ("bob", "amy", "nobody", "zed"):
            self.assertEqual(told["amy", other], FAIR)
            told["amy", other] = SOFT
            self.assertEqual(told["amy", other], SOFT)
            told["amy", other] = no()
            self.assertEqual(told["amy", other], no())
        self.assertEqual(told.own("amy"), ["amy", "bob", "nobody", "zed"])
        self.assertEqual(told["amy"], FAIR)
        self.assertEqual(told["bob", "amy"], yes())
        self.assertEqual(told.own("bob"), [])
        self.assertEqual(told.names(), ["amy", "bob", "zed"])
        self.assertNotIn("nobody", told)
        self.assertEqual(told["amy", "further"], FAIR)

    def test_the_rule_is_followed_where_there_is_none_of_its_own(self):
        told = company()
        told["amy", "zed"] = no()
        told["amy"] = yes()
        self.assertEqual(told["amy", "bob"], yes())
        self.assertEqual(told["amy", "zed"], no())

    def test_dict_that_is_changed_afterwards(self):
        rules = {"amy": FAIR, "bob": yes()}
        told = Company(rules)
        rules["amy"] = no()
        rules["al"] = no()
        del rules["bob"]
        self.assertEqual(state(told), [("amy", "#him-me", []), ("bob", "yes", [])])
        kept = {"amy": FAIR}
        told = Company(kept)
        told["amy"] = no()
        told["bob"] = no()
        told.drop("amy")
        self.assertEqual(list(kept.items()), [("amy", FAIR)])

    def test_form_that_is_changed_afterwards(self):
        form = ["box", ["act", "him", "me"]]
        told = Company()
        told["amy"] = Saying(form)
        form[1][1] = "bob"
        self.assertEqual(told["amy"], FAIR)

    def test_lists_are_new(self):
        told = company()
        told["amy", "bob"] = no()
        for method in (told.names, lambda: told.own("amy")):
            self.assertIs(type(method()), list)
            before = method()
            kept = list(before)
            before.append("further")
            before.reverse()
            self.assertEqual(method(), kept)
        self.assertEqual(told.own(name="amy"), ["bob"])


class Taking(unittest.TestCase):
    def test_player_with_all_its_rules(self):
        told = company()
        told["amy", "bob"] = no()
        told["bob", "amy"] = no()
        self.assertIsNone(told.drop("amy"))
        self.assertEqual(state(told), [("bob", "yes", [("amy", "no")]), ("zed", "no", [])])
        self.assertNotIn("amy", told)
        told["amy"] = SOFT
        self.assertEqual(told["amy", "bob"], SOFT)
        self.assertEqual(told.own("amy"), [])
        self.assertIsNone(told.drop(key="bob"))
        self.assertIsNone(told.drop("zed"))
        self.assertIsNone(told.drop("amy"))
        self.assertEqual(told, Company())

    def test_a_rule_of_its_own(self):
        told = company()
        for other in ("amy", "bob", "nobody"):
            told["amy", other] = no()
            self.assertIsNone(told.drop(("amy", other)))
            self.assertEqual(told["amy", other], FAIR)
            self.assertEqual(told, company())
        told["amy", "bob"] = no()
        told["amy", "zed"] = yes()
        self.assertIsNone(told.drop(key=("amy", "bob")))
        self.assertEqual(told.own("amy"), ["zed"])
        self.assertIn("bob", told)

    def test_one_that_is_not_there(self):
        told = company()
        told["amy", "zed"] = yes()
        before = state(told)
        for key in (("amy", "bob"), ("amy", "amy"), ("amy", "nobody"), ("bob", "zed")):
            self.assertIsNone(told.drop(key))
            self.assertEqual(state(told), before)

    def test_who_has_rules_for_one_that_is_taken_out(self):
        told = company()
        told["amy", "bob"] = no()
        told.drop("bob")
        self.assertEqual(told["amy", "bob"], no())
        self.assertEqual(told.own("amy"), ["bob"])


class Asking(unittest.TestCase):
    def test_in(self):
        told = company()
        told["amy", "bob"] = no()
        told["amy", "nobody"] = no()
        for name in ("amy", "bob", "zed"):
            self.assertIs(name in told, True)
        for thing in ("al", "nobody", "am", "amyy") + NO_NAMES + NO_KEYS:
            self.assertIs(thing in told, False, thing)
            self.assertIs(thing not in told, True, thing)
        for thing in (("amy", "bob"), ("amy", "nobody"), ("amy", "amy"), ["amy"], ("amy", "zed"), ("amy", ["bob"])):
            self.assertIs(thing in told, False, thing)

    def test_len(self):
        told = Company()
        for many, name in enumerate(("f", "b", "d", "a", "c", "e")):
            self.assertEqual(len(told), many)
            told[name] = yes()
            told[name] = no()
            told[name, "a"] = no()
            self.assertEqual(len(told), many + 1)
        self.assertEqual(told.names(), ["a", "b", "c", "d", "e", "f"])
        told.drop("c")
        self.assertEqual(len(told), 5)
        self.assertEqual(told.names(), ["a", "b", "d", "e", "f"])

    def test_own(self):
        told = company()
        for other in ("zed", "al", "bob", "amy", "x" * 8):
            told["amy", other] = FAIR
        self.assertEqual(told.own("amy"), ["al", "amy", "bob", "xxxxxxxx", "zed"])
        self.assertEqual(told.own("zed"), [])

    def test_equality(self):
        one, other = company(), Company({"zed": no(), "amy": FAIR, "bob": yes()})
        self.assertTrue(one == other)
        self.assertFalse(one != other)
        other["amy", "bob"] = FAIR
        self.assertFalse(one == other)
        self.assertTrue(one != other)
        one["amy", "bob"] = FAIR
        self.assertTrue(one == other)
        one["amy", "bob"] = no()
        self.assertFalse(one == other)
        one["amy", "bob"] = FAIR
        one["bob", "amy"] = yes()
        self.assertFalse(one == other)
        one.drop(("bob", "amy"))
        self.assertTrue(one == other)
        one["amy"] = SOFT
        self.assertFalse(one == other)
        other["amy"] = SOFT
        self.assertTrue(one == other)
        other.drop("zed")
        self.assertFalse(one == other)
        self.assertFalse(other == one)

    def test_equal_after_other_ways(self):
        one = Company({"amy": yes()})
        one["bob"] = FAIR
        one["amy"] = no()
        one["bob", "amy"] = SOFT
        one["bob", "zed"] = SOFT
        other = Company({"bob": no(), "amy": no()})
        other["bob", "zed"] = SOFT
        other["bob", "amy"] = no()
        other["bob", "amy"] = SOFT
        other["bob"] = FAIR
        self.assertTrue(one == other)

    def test_equals_nothing_else(self):
        rules = {"bob": yes(), "amy": FAIR, "zed": no()}
        for thing in (rules, None, True, 0, 3, "", "amy", [], ["amy", "bob", "zed"], (), yes(), object(), Company):
            self.assertFalse(company() == thing)
            self.assertFalse(thing == company())
            self.assertTrue(company() != thing)
        for thing in ({}, None, 0, False, [], (), ""):
            self.assertFalse(Company() == thing)

    def test_twin(self):
        told = company()
        told["amy", "bob"] = no()
        told["amy", "nobody"] = SOFT
        twin = told.twin()
        self.assertIsInstance(twin, Company)
        self.assertIsNot(twin, told)
        self.assertEqual(twin, told)
        self.assertEqual(state(twin), state(told))

    def test_twins_go_their_own_way(self):
        told = company()
        told["amy", "bob"] = no()
        before = state(told)
        twin = told.twin()
        twin["amy", "bob"] = yes()
        twin["amy", "zed"] = yes()
        twin["bob", "amy"] = yes()
        twin["zed"] = FAIR
        twin["al"] = FAIR
        twin.drop("bob")
        self.assertEqual(state(told), before)
        twin = told.twin()
        after = state(twin)
        told.drop(("amy", "bob"))
        told["amy"] = no()
        told["bob", "bob"] = no()
        told.drop("zed")
        self.assertEqual(state(twin), after)
        self.assertEqual(Company().twin(), Company())


class NotNames(Doors):
    def test_each_door(self):
        for told in (company(), Company()):
            for thing in NO_NAMES + NO_KEYS:
                self.check(BadName, {"name": thing}, take, told, thing)
                self.check(BadName, {"name": thing}, put, told, thing, yes())
                self.check(BadName, {"name": thing}, told.drop, thing)
                self.check(BadName, {"name": thing}, told.own, thing)

    def test_of_a_pair_the_first_one(self):
        told = company()
        for thing in NO_NAMES + NO_KEYS + (("amy", "bob"),):
            for work in (lambda key: told[key], lambda key: put(told, key, yes()), told.drop):
                self.check(BadName, {"name": thing}, work, (thing, "amy"))
                self.check(BadName, {"name": thing}, work, ("amy", thing))
                self.check(BadName, {"name": thing}, work, ("nobody", thing))
                self.check(BadName, {"name": thing}, work, (thing, "Bob"))
                self.check(BadName, {"name": thing}, work, (thing, thing))

    def test_pairs_where_a_name_is_asked(self):
        told = company()
        for pair in (("amy", "bob"), ("amy", "amy"), ("me", "him"), ("amy", 5)):
            self.check(BadName, {"name": pair}, told.own, pair)
            self.check(BadName, {"name": pair}, Company, {pair: yes()})
            self.check(BadName, {"name": pair}, Company, {"amy": yes(), pair: yes()})

    def test_of_rules(self):
        for thing in NO_NAMES:
            self.check(BadName, {"name": thing}, Company, {thing: yes()})
            self.check(BadName, {"name": thing}, Company, {"amy": yes(), thing: None})


class NotPlayers(Doors):
    def test_each_door(self):
        told = company()
        told["amy", "nobody"] = no()
        for name in ("nobody", "al", "am", "zedd"):
            self.check(NoPlayer, {"name": name}, take, told, name)
            self.check(NoPlayer, {"name": name}, take, told, (name, "amy"))
            self.check(NoPlayer, {"name": name}, take, told, (name, name))
            self.check(NoPlayer, {"name": name}, put, told, (name, "amy"), yes())
            self.check(NoPlayer, {"name": name}, put, told, (name, "further"), yes())
            self.check(NoPlayer, {"name": name}, told.drop, name)
            self.check(NoPlayer, {"name": name}, told.drop, (name, "amy"))
            self.check(NoPlayer, {"name": name}, told.own, name)

    def test_behind_a_drop(self):
        told = company()
        told.drop("amy")
        self.check(NoPlayer, {"name": "amy"}, told.drop, "amy")
        self.check(NoPlayer, {"name": "amy"}, take, told, "amy")
        self.check(NoPlayer, {"name": "bob"}, Company().drop, "bob")

    def test_not_for_the_second_one(self):
        told = company()
        told["amy", "nobody"] = no()
        self.assertEqual(told["amy", "nobody"], no())
        self.assertEqual(told["bob", "nobody"], yes())
        self.assertIsNone(told.drop(("bob", "nobody")))


class NotRules(Doors):
    def test_each_door(self):
        told = company()
        for thing in NO_RULES:
            self.check(BadRule, {}, put, told, "amy", thing)
            self.check(BadRule, {}, put, told, "further", thing)
            self.check(BadRule, {}, put, told, ("amy", "bob"), thing)
            self.check(BadRule, {}, put, told, ("amy", "nobody"), thing)
            self.check(BadRule, {}, Company, {"amy": thing})
            self.check(BadRule, {}, Company, {"amy": yes(), "bob": thing})
        self.assertEqual(told, company())

    def test_acts_within_boxes_are_good(self):
        told = Company({"amy": act("me", "him").__pos__()})
        self.assertEqual(told["amy"].text(), "#me-him")


class OneAheadOfTheOther(Doors):
    def test_names_players_rules(self):
        told = company()
        for rule in (None, letter("p"), act("me", "him")):
            self.check(BadName, {"name": "me"}, put, told, ("nobody", "me"), rule)
            self.check(BadName, {"name": "x"}, put, told, "x", rule)
            self.check(BadName, {"name": "x"}, put, told, ("x", "him"), rule)
            self.check(BadName, {"name": "him"}, put, told, ("amy", "him"), rule)
            self.check(NoPlayer, {"name": "nobody"}, put, told, ("nobody", "amy"), rule)
            self.check(BadRule, {}, put, told, ("amy", "nobody"), rule)
            self.check(BadRule, {}, put, told, "nobody", rule)
        self.check(BadName, {"name": "me"}, take, told, ("nobody", "me"))
        self.check(BadName, {"name": "me"}, told.drop, ("nobody", "me"))

    def test_rules_entry_by_entry(self):
        pair = ("amy", "bob")
        self.check(BadName, {"name": "X"}, Company, {"amy": yes(), "X": None, "bob": None})
        self.check(BadRule, {}, Company, {"amy": yes(), "bob": None, "X": yes()})
        self.check(BadName, {"name": "X"}, Company, {"X": None})
        self.check(BadName, {"name": pair}, Company, {pair: None, "X": yes(), "amy": None})
        self.check(BadRule, {}, Company, {"bob": 5, pair: yes()})

    def test_the_company_is_as_it_was(self):
        told = company()
        told["amy", "bob"] = SOFT
        told["amy", "nobody"] = no()
        before = state(told)
        works = [lambda: put(told, ("amy", "bob"), None), lambda: put(told, "amy", letter("p")),
                 lambda: put(told, "further", 5), lambda: put(told, ("amy", "zed"), act("me", "him")),
                 lambda: put(told, ("further", "amy"), yes()), lambda: put(told, ("amy", "x"), yes()),
                 lambda: told.drop("further"), lambda: told.drop(("amy", "me")), lambda: told.drop(["amy"]),
                 lambda: told.drop(("further", "amy")), lambda: told.own(("amy", "bob")), lambda: told["further"]]
        for work in works:
            with self.assertRaises((BadName, NoPlayer, BadRule)):
                work()
            self.assertEqual(state(told), before)
            self.assertNotIn("further", told)
            self.assertEqual(len(told), 3)


if __name__ == "__main__":
    unittest.main()
