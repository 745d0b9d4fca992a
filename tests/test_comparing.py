"""Points 26 to 28: players side by side, who stands for whom, and who is never worse."""

import itertools
import random
import unittest

import against
import oracle
import players
from making import NAMES, company_of, of_texts
from boxfall.companies import Company, matches
from boxfall.comparing import Parting, best_players, never_worse, parting, stands_for
from boxfall.meetings import meeting, met
from boxfall.rows import as_saying
from boxfall.sayings import Saying, no, yes

T, F = True, False
read = Saying.read


def told_of(found):
    return found and (found.level, found.rows, found.pair)


def small_pairs(seed, rounds, longest, most=9):
    """Drawn companies with two of their players, for whom a search through all rows is short."""
    source = random.Random(seed)
    while rounds:
        told, (one, other) = against.drawn(source, NAMES, longest, 3, 2, 7)
        boxes, acts = against.size_of(told, [one, other], against.as_less(one, other))
        if (boxes + 1) * acts <= most:
            rounds -= 1
            yield told, one, other


def at_level(row, level):
    return row[min(level, len(row) - 1)]


class Partings(unittest.TestCase):
    def check(self, company, one, other, level, rows, pair):
        found = parting(company, one, other)
        self.assertEqual(told_of(found), (level, rows, pair))
        self.assertEqual(list(found.rows), sorted(rows))
        self.assertEqual(told_of(parting(company, other, one)), (level, rows, pair[::-1]))
        self.assertIs(stands_for(company, one, other), F)
        self.assertIs(stands_for(company, other, one), F)

    def check_alike(self, company, one, other):
        for pair in ((one, other), (other, one)):
            self.assertIsNone(parting(company, *pair))
            self.assertIs(stands_for(company, *pair), T)

    def test_known_players(self):
        company = of_texts(fair="#him-me", soft="~#~him-me", yea="yes", nay="no", just="#him-me")
        self.check_alike(company, "fair", "just")
        self.check(company, "fair", "yea", 1, {"fair": (F,)}, (F, T))
        self.check(company, "fair", "nay", 0, {"fair": ()}, (T, F))
        self.check(company, "fair", "soft", 0, {"fair": ()}, (T, F))
        self.check(company, "nay", "soft", 1, {"nay": (T,)}, (F, T))
        self.check(company, "yea", "nay", 0, {"nay": ()}, (T, F))
        self.check(company, "soft", "yea", 0, {"soft": ()}, (F, T))

    def test_kinds(self):
        company = of_texts(fair="#him-me", yea="yes")
        found = parting(company, "fair", "yea")
        self.assertIsInstance(found, Parting)
        self.assertEqual(sorted(vars(found)), ["level", "pair", "rows"])
        self.assertEqual([type(thing) for thing in told_of(found)], [int, dict, tuple])
        self.assertTrue(all(type(truth) is bool for truth in found.pair + found.rows["fair"]))
        self.assertIs(type(found.rows["fair"]), tuple)
        found.rows.clear()
        self.assertEqual(parting(company=company, one="fair", other="yea").rows, {"fair": (F,)})
        self.assertEqual(parting(other="fair", one="yea", company=company).pair, (T, F))
        self.assertIs(stands_for(other="fair", one="yea", company=company), F)

    def test_a_player_with_itself(self):
        company = of_texts(fair="#him-me", amy="(#him-bob > ~#bob-him)", bob="#him-him", nay="no")
        for name in company.names():
            self.check_alike(company, name, name)
            self.assertIsNone(never_worse(company, name, name, (0, 3, -1, 2)))
        source = random.Random(101)
        for _ in range(100):
            told, (name,) = against.drawn(source, NAMES, 12, 3)
            self.check_alike(company_of(told), name, name)

    def test_alike_in_other_words(self):
        company = of_texts(amy="#him-me", bob="~~#(him-me & yes)", al="(#him-me | #no)", xi="(#no | #him-me)",
                           zed="(##him-me & #him-me)", y="(##him-me | #him-me)")
        for one, other in itertools.combinations(("amy", "bob", "al", "xi", "zed"), 2):
            self.check_alike(company, one, other)
        self.check(company, "amy", "y", 1, {"amy": (F,)}, (F, T))
        company = of_texts(amy="#me-him", bob="yes", al="#(#me-him > him-me)", zed="#him-me")
        self.check_alike(company, "amy", "bob")
        self.check_alike(company, "al", "zed")

    def test_late_ones(self):
        for many in range(1, 10):
            company = of_texts(amy="#" * many + "no", bob="#" * (many + 1) + "no")
            self.check(company, "amy", "bob", many, {"amy": (F,) * many}, (F, T))
            company = of_texts(bob="#" * many + "him-me", amy="yes")
            self.check(company, "amy", "bob", many, {"amy": (F,) * many}, (T, F))

    def test_least_rows_level_by_level(self):
        company = of_texts(amy="(#him-bob & #him-me)", bob="yes", zed="#him-me")
        self.check(company, "amy", "zed", 1, {"amy": (T,), "bob": (F,)}, (F, T))
        company["zed"] = read("(#him-me & ##him-bob)")
        self.check(company, "amy", "zed", 1, {"amy": (T,), "bob": (F,)}, (F, T))
        company["zed"] = read("((#him-me & #him-bob) | ##~him-bob)")
        self.check(company, "amy", "zed", 1, {"amy": (F,), "bob": (F,)}, (F, T))

    def test_those_met_by_either(self):
        company = of_texts(amy="#him-bob", bob="yes", zed="#him-y", y="no")
        self.assertEqual((met(company, "amy"), met(company, "zed")), (["amy", "bob"], ["y", "zed"]))
        self.check(company, "amy", "zed", 1, {"amy": (F,), "bob": (F,), "y": (T,)}, (F, T))
        company["zed"] = read("#him-him")
        self.check(company, "amy", "zed", 1, {"amy": (F,), "bob": (F,), "x": (T,)}, (F, T))

    def test_the_act_with_the_greater_counts_as_that_with_the_less(self):
        company = of_texts(amy="#him-me", zed="#him-amy", bob="#him-zed", y="yes")
        for one, other in (("amy", "zed"), ("zed", "amy")):
            self.check_alike(company, one, other)
        self.check(company, "amy", "bob", 1, {"amy": (F,), "zed": (T,)}, (F, T))
        self.check(company, "bob", "zed", 1, {"amy": (F,), "bob": (T,)}, (T, F))
        company["amy"] = read("#him-zed")
        self.check_alike(company, "amy", "zed")
        company["amy"] = read("#y-him")
        company["y"] = read("(#him-zed & #him-amy)")
        company["zed"] = read("##him-me")
        self.check_alike(company, "amy", "zed")
        company["zed"] = read("#him-me")
        self.check(company, "amy", "zed", 1, {"amy": (F,)}, (T, F))

    def test_rules_of_their_own(self):
        company = of_texts(amy="#bob-me", al="#bob-me", bob="yes")
        self.check_alike(company, "amy", "al")
        company["bob", "al"] = no()
        self.check(company, "amy", "al", 1, {"al": (F,)}, (T, F))
        company = of_texts(amy="#me-bob", al="#me-bob", bob="yes")
        self.check_alike(company, "amy", "al")
        company["amy", "bob"] = no()
        self.check(company, "amy", "al", 1, {"al": (F,)}, (F, T))
        company["al", "bob"] = read("#no")
        self.check(company, "amy", "al", 1, {"al": (F,)}, (F, T))
        company["al", "bob"] = no()
        self.check_alike(company, "amy", "al")

    def test_one_another(self):
        company = of_texts(amy="#bob-me", bob="#amy-me")
        self.check_alike(company, "amy", "bob")
        company["bob", "amy"] = no()
        self.check(company, "amy", "bob", 1, {"amy": (F,)}, (F, T))

    def test_rows_make_it_so(self):
        parted = 0
        for told, one, other in small_pairs(102, 150, 12, 20):
            company = company_of(told)
            found = parting(company, one, other)
            if found is not None and found.level > 0:
                rows = {**found.rows, max(one, other): found.rows[min(one, other)]}
                acts = tuple(meeting(company, name, rows).row for name in (one, other))
                self.assertEqual(tuple(at_level(row, found.level) for row in acts), found.pair)
                self.assertTrue(all(at_level(acts[0], low) == at_level(acts[1], low) for low in range(found.level)))
                parted += 1
        self.assertGreater(parted, 20)

    def test_all_small_rules(self):
        forms = [form for form in oracle.forms(4, (("act", "him", "me"), ("no",))) if against.is_boxed(form)]
        for one, other in itertools.combinations(forms, 2):
            told = {"amy": one, "bob": other}, {}
            self.assertEqual(told_of(parting(company_of(told), "amy", "bob")), against.parting(told, "amy", "bob"))

    def test_drawn(self):
        levels, alike = set(), 0
        for told, one, other in small_pairs(103, 300, 9):
            found = told_of(parting(company_of(told), one, other))
            self.assertEqual(found, against.parting(told, one, other), (told, one, other))
            self.assertIs(stands_for(company_of(told), one, other), found is None)
            alike += found is None and one != other
            levels.add(found and found[0])
        self.assertGreater(alike, 5)
        self.assertLessEqual({0, 1, 2}, levels)

    def test_the_company_stays(self):
        for told, one, other in small_pairs(104, 30, 9):
            company = company_of(told)
            twin = company.twin()
            parting(company, one, other)
            never_worse(company, one, other, [0, 1, 2, 3])
            self.assertEqual(company, twin)

    def test_anew_behind_a_change(self):
        company = of_texts(amy="#him-me", bob="#him-me")
        self.check_alike(company, "amy", "bob")
        company["bob"] = no()
        self.check(company, "amy", "bob", 0, {"amy": ()}, (T, F))


class Fact(unittest.TestCase):
    """Point 27."""

    def fit(self, told, one, other):
        """Without rules of their own and without words of the two."""
        spoken = {word for form in told[0].values() for pair in players.acts_of(form) for word in pair}
        return not told[1] and one not in spoken and other not in spoken and one != other

    def grown(self, told, rule, more):
        """The company with further players, and a new one with a rule."""
        rules, own = more
        company = company_of(({**told[0], **rules}, own))
        company["new"] = rule
        return company

    def companies(self, seed, rounds, longest):
        source = random.Random(seed)
        while rounds:
            names = source.sample(NAMES, source.randint(2, 4))
            told = {name: players.drawn_rule(source, source.randint(1, longest), ("me", "him", "me", "him", names[0]))
                    for name in names}, {}
            one, other = source.choice(names), source.choice(names)
            boxes, acts = against.size_of(told, [one, other], {})
            if self.fit(told, one, other) and boxes <= 10 and acts <= 3:
                rounds -= 1
                yield told, one, other

    def further(self, source, names):
        """Further players, with words of all, also rules of their own."""
        words = ("me", "him", "me", "him", "new", "fa", "fb", *names)
        rules = {name: players.drawn_rule(source, source.randint(1, 8), words) for name in ("fa", "fb")}
        own = {(name, whom): players.drawn_rule(source, source.randint(1, 8), words)
               for name in rules for whom in ("new", *names) if source.random() < 0.3}
        return rules, own

    def test_who_stands_for_another(self):
        source = random.Random(105)
        alike = [("#him-me", "~~#(him-me & yes)"), ("#me-him", "yes"), ("#(#him-me > him-me)", "##him-me"),
                 ("(#him-me & ##him-me)", "#him-me"), ("#(me-him > him-me)", "#(#him-me > him-me)")]
        found = 0
        for one, other in alike:
            company = of_texts(amy=one, bob=other)
            if stands_for(company, "amy", "bob"):
                found += 1
                told = {name: company[name].form() for name in company.names()}, {}
                for _ in range(25):
                    more = self.further(source, ["amy", "bob"])
                    self.assertEqual(matches(self.grown(told, company["amy"], more)),
                                     matches(self.grown(told, company["bob"], more)))
        self.assertGreaterEqual(found, 3)

    def test_drawn_ones_that_stand_for_another(self):
        source = random.Random(106)
        alike = 0
        for told, one, other in self.companies(107, 600, 7):
            if told[0][one] != told[0][other] and stands_for(company_of(told), one, other):
                more = self.further(source, sorted(told[0]))
                one, other = (matches(self.grown(told, Saying(told[0][name]), more)) for name in (one, other))
                self.assertEqual(one, other)
                alike += 1
        self.assertGreater(alike, 25)

    def test_ones_that_do_not(self):
        levels = set()
        for told, one, other in self.companies(108, 400, 9):
            found = parting(company_of(told), one, other)
            if found is not None:
                rows = found.rows if found.level else {name: (T,) for name in found.rows}
                acts = []
                for name in (one, other):
                    company = self.grown(told, Saying(told[0][name]), ({"wit": ("yes",)}, {}))
                    for whom, row in rows.items():
                        company["wit", {min(one, other): "new", "x": "wit"}.get(whom, whom)] = as_saying(row)
                    acts.append(at_level(matches(company)["new", "wit"], found.level))
                self.assertEqual(tuple(acts), found.pair)
                levels.add(found.level)
        self.assertLessEqual({0, 1, 2, 3}, levels)


class NeverWorse(unittest.TestCase):
    def test_known_players(self):
        company = of_texts(fair="#him-me", soft="~#~him-me", yea="yes", nay="no")
        dilemma = (1, 3, 0, 2)
        for one, other, rows in (("nay", "yea", None), ("yea", "nay", {"nay": (F,)}), ("fair", "yea", None),
                                 ("yea", "fair", {"fair": (F,)}), ("fair", "nay", {"fair": (T,)}),
                                 ("nay", "fair", None), ("soft", "fair", {"fair": (F, T)}),
                                 ("fair", "soft", None), ("soft", "yea", None)):
            self.assertEqual(never_worse(company, one, other, dilemma), rows, (one, other))

    def test_each_of_the_four_worths_counts(self):
        company = of_texts(yea="yes", nay="no")
        for worth, better, rows in (((1, 0, 0, 0), "nay", {"nay": (F,)}), ((0, 1, 0, 0), "nay", {"nay": (T,)}),
                                    ((0, 0, 1, 0), "yea", {"nay": (F,)}), ((0, 0, 0, 1), "yea", {"nay": (T,)})):
            worse = "yea" if better == "nay" else "nay"
            self.assertIsNone(never_worse(company, better, worse, worth))
            self.assertEqual(never_worse(company, worse, better, worth), rows)
            self.assertEqual(best_players(company, worth), [better])
        self.assertEqual(never_worse(company, "yea", "nay", (5, 5, -5, 5)), {"nay": (F,)})
        self.assertEqual(never_worse(company, "nay", "yea", (-5, -6, -5, -5)), {"nay": (T,)})

    def test_lists_and_names(self):
        company = of_texts(fair="#him-me", yea="yes")
        for worth in ((1, 3, 0, 2), [1, 3, 0, 2]):
            self.assertEqual(never_worse(company, "yea", "fair", worth), {"fair": (F,)})
            self.assertEqual(never_worse(company=company, one="yea", other="fair", worth=worth), {"fair": (F,)})
            self.assertEqual(never_worse(worth=worth, other="yea", one="fair", company=company), None)
            self.assertEqual(best_players(company=company, worth=worth), ["fair"])
        worth = [1, 3, 0, 2]
        found = never_worse(company, "yea", "fair", worth)
        self.assertEqual(worth, [1, 3, 0, 2])
        found.clear()
        self.assertEqual(never_worse(company, "yea", "fair", worth), {"fair": (F,)})

    def test_rows_in_the_end(self):
        # Unlike at level 0 alone: in the end they are alike.
        company = of_texts(amy="(#no | #him-me)", bob="#him-me", al="(~#no & #him-me)")
        for one, other in itertools.permutations(company.names(), 2):
            for worth in ((1, 3, 0, 2), (0, 0, 0, 1), (-1, 1, -1, 1)):
                self.assertIsNone(never_worse(company, one, other, worth))
        self.assertFalse(stands_for(company, "amy", "al"))
        self.assertEqual(best_players(company, (1, 3, 0, 2)), ["al", "amy", "bob"])

    def test_those_met(self):
        company = of_texts(amy="#him-bob", bob="yes", zed="#him-y", y="no")
        found = never_worse(company, "amy", "zed", (0, 0, 1, 1))
        self.assertEqual(list(found.items()), [("amy", (F,)), ("bob", (F,)), ("y", (T,))])
        found = never_worse(company, "zed", "amy", (0, 0, 1, 1))
        self.assertEqual(list(found.items()), [("amy", (F,)), ("bob", (T,)), ("y", (F,))])

    def test_drawn(self):
        source = random.Random(109)
        lengths = set()
        for told, one, other in small_pairs(110, 200, 9, 8):
            worth = tuple(source.randint(-2, 2) for _ in range(4))
            found = never_worse(company_of(told), one, other, source.choice((worth, list(worth))))
            self.assertEqual(found, against.never_worse(told, one, other, worth), (told, one, other, worth))
            lengths.add(found and len(found[min(one, other)]))
        self.assertLessEqual({None, 1, 2}, lengths)


class BestPlayers(unittest.TestCase):
    def test_known_players(self):
        company = of_texts(fair="#him-me", soft="~#~him-me", yea="yes", nay="no")
        self.assertEqual(best_players(company, (1, 3, 0, 2)), ["nay"])
        self.assertEqual(best_players(company, (0, 1, 2, 3)), ["yea"])
        self.assertEqual(best_players(company, (1, 0, 0, 1)), ["fair", "soft"])

    def test_none_and_one(self):
        for worth in ((1, 3, 0, 2), [0, 0, 0, 0], (-1, -1, -5, 10 ** 30)):
            self.assertEqual(best_players(Company(), worth), [])
            self.assertEqual(best_players(of_texts(amy="#him-me"), worth), ["amy"])

    def test_all_alike(self):
        company = Company({name: read("#him-me") for name in NAMES})
        self.assertEqual(best_players(company, (1, 3, 0, 2)), sorted(NAMES))
        company = of_texts(yea="yes", nay="no", fair="#him-me")
        self.assertEqual(best_players(company, (0, 0, 0, 0)), ["fair", "nay", "yea"])
        self.assertEqual(best_players(company, (-7, -7, -7, -7)), ["fair", "nay", "yea"])

    def test_several(self):
        # One gets more of who keeps, the other of who does not.
        company = of_texts(yea="yes", nay="no")
        self.assertEqual(best_players(company, (1, 0, 0, 1)), ["nay", "yea"])
        company["yea"] = no()
        self.assertEqual(best_players(company, (1, 0, 0, 1)), ["nay", "yea"])
        company["zed"] = yes()
        self.assertEqual(best_players(company, (1, 1, 0, 0)), ["nay", "yea"])

    def test_new_list(self):
        company = of_texts(yea="yes", nay="no")
        found = best_players(company, (1, 3, 0, 2))
        self.assertIs(type(found), list)
        found.clear()
        self.assertEqual(best_players(company, (1, 3, 0, 2)), ["nay"])

    def test_drawn(self):
        source = random.Random(111)
        counts = set()
        checked = 0
        while checked < 60:
            told, _ = against.drawn(source, NAMES, 6, 2, 1, 4, 2)
            names = sorted(told[0])
            sizes = [against.size_of(told, pair, against.as_less(*pair)) for pair in itertools.product(names, repeat=2)]
            if 2 <= len(names) <= 4 and all((boxes + 1) * acts <= 6 for boxes, acts in sizes):
                worth = tuple(source.randint(-2, 2) for _ in range(4))
                found = best_players(company_of(told), source.choice((worth, list(worth))))
                self.assertEqual(found, against.best_players(told, worth), (told, worth))
                counts.add(len(found) == len(names))
                checked += 1
        self.assertEqual(counts, {T, F})

    def test_six_players(self):
        company = of_texts(a="#him-me", b="~#~him-me", c="yes", d="no", e="##him-me", f="(#him-me & ~#no)")
        told = {name: company[name].form() for name in company.names()}, {}
        for worth in ((1, 3, 0, 2), (0, 1, 1, 0), (2, 0, 0, 3), (-1, -1, 4, 4), (1, 0, 0, 1)):
            self.assertEqual(best_players(company, worth), against.best_players(told, worth))


if __name__ == "__main__":
    unittest.main()
