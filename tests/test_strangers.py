"""Point 24, and 32 and 33 against the stranger: ends, least rows, and safety."""

import itertools
import random
import unittest

import against
import oracle
from making import NAMES, company_of, of_texts
from boxfall.companies import Company
from boxfall.meetings import met, meeting
from boxfall.rows import plain
from boxfall.sayings import Saying, no, yes
from boxfall.strangers import ends, is_safe

T, F = True, False
read = Saying.read


def alternating(boxes):
    """A rule that keeps in the end if x has left and kept by turns as often as there are boxes."""
    text = "#him-me"
    for many in range(1, boxes):
        text = "#(" + text + " | " + ("~" if many % 2 else "") + "him-me)"
    return read("~" + text)


class Ends(unittest.TestCase):
    def check(self, company, name, told):
        found = ends(company, name)
        self.assertEqual(list(found.items()), list(told.items()))
        self.assertEqual(is_safe(company, name), (T, F) not in told)
        for pair, rows in found.items():
            self.assertEqual(list(rows), met(company, name))
            self.assertEqual(len({len(row) for row in rows.values()}), 1)
            self.assertEqual(meeting(company, name, rows).end, pair)

    def test_known_players(self):
        company = of_texts(fair="#him-me", yea="yes", nay="no", soft="~#~him-me")
        self.check(company, "fair", {(F, F): {"fair": (F,)}, (F, T): {"fair": (F, T)}, (T, T): {"fair": (T,)}})
        self.check(company, "yea", {(T, F): {"yea": (F,)}, (T, T): {"yea": (T,)}})
        self.check(company, "nay", {(F, F): {"nay": (F,)}, (F, T): {"nay": (T,)}})
        self.check(company, "soft", {(F, F): {"soft": (F,)}, (T, F): {"soft": (T, F)}, (T, T): {"soft": (T,)}})

    def test_all_four_ends(self):
        company = of_texts(amy="~#(#him-me | ~him-me)")
        self.check(company, "amy", {(F, F): {"amy": (F,)}, (F, T): {"amy": (T,)}, (T, F): {"amy": (F, T, F)},
                                    (T, T): {"amy": (F, T)}})

    def test_two_ends(self):
        self.check(of_texts(amy="(#him-me | ~##him-me)"), "amy", {(T, F): {"amy": (F,)}, (T, T): {"amy": (T,)}})
        self.check(of_texts(amy="#no"), "amy", {(F, F): {"amy": (F,)}, (F, T): {"amy": (T,)}})

    def test_ends_that_need_long_rows(self):
        self.check(Company({"amy": alternating(1)}), "amy",
                   {(F, T): {"amy": (T,)}, (T, F): {"amy": (F,)}, (T, T): {"amy": (F, T)}})
        for boxes in range(2, 11):
            company = Company({"amy": alternating(boxes)})
            turns = tuple(level % 2 == 1 for level in range(boxes + 1))
            told = {(F, F): (F,), (F, T): (T,), (T, turns[boxes - 1]): turns[:boxes], (T, turns[boxes]): turns}
            self.check(company, "amy", {pair: {"amy": told[pair]} for pair in sorted(told)})

    def test_two_acts(self):
        company = of_texts(amy="(#him-me & #him-bob)", bob="no")
        self.check(company, "amy", {(F, F): {"amy": (F,), "bob": (F,)}, (F, T): {"amy": (T,), "bob": (F,)},
                                    (T, T): {"amy": (T,), "bob": (T,)}})
        company["amy"] = read("(#him-me | ~#him-bob)")
        self.check(company, "amy", {(F, F): {"amy": (F,), "bob": (T,)}, (F, T): {"amy": (F, T), "bob": (T, T)},
                                    (T, F): {"amy": (F,), "bob": (F,)}, (T, T): {"amy": (T,), "bob": (F,)}})

    def test_level_by_level(self):
        # At level 0 x must not keep with both; that it leaves zed alone there, is the least.
        company = of_texts(amy="~#(him-bob | him-zed)", bob="no", zed="no")
        self.check(company, "amy", {(F, F): {"amy": (F,), "bob": (F,), "zed": (T,)},
                                    (F, T): {"amy": (T,), "bob": (F,), "zed": (T,)},
                                    (T, F): {"amy": (F,), "bob": (F,), "zed": (F,)},
                                    (T, T): {"amy": (T,), "bob": (F,), "zed": (F,)}})
        # The first rows level by level are not those that are the least ones name by name.
        company = of_texts(amy="~#(#him-bob | ~him-me)", bob="no")
        self.check(company, "amy", {(F, F): {"amy": (F,), "bob": (F,)}, (F, T): {"amy": (T,), "bob": (T,)},
                                    (T, F): {"amy": (F, T, F), "bob": (F, F, F)},
                                    (T, T): {"amy": (T,), "bob": (F,)}})

    def test_the_stranger_with_itself(self):
        company = of_texts(amy="(#him-him > #him-me)")
        self.check(company, "amy", {(F, F): {"amy": (F,), "x": (T,)}, (F, T): {"amy": (F, T), "x": (T, T)},
                                    (T, F): {"amy": (F,), "x": (F,)}, (T, T): {"amy": (T,), "x": (F,)}})

    def test_rules_of_others(self):
        company = of_texts(amy="#bob-him", bob="#him-me")
        self.check(company, "amy", {(F, F): {"amy": (F,), "bob": (F,)}, (F, T): {"amy": (T,), "bob": (F,)},
                                    (T, F): {"amy": (F,), "bob": (T,)}, (T, T): {"amy": (T,), "bob": (T,)}})
        company["bob"] = no()
        self.check(company, "amy", {(F, F): {"amy": (F,)}, (F, T): {"amy": (T,)}})
        company["amy", "bob"] = yes()
        company["bob", "amy"] = yes()
        self.check(company, "amy", {(F, F): {"amy": (F,)}, (F, T): {"amy": (T,)}})

    def test_boxes_that_fall_anyhow(self):
        company = of_texts(amy="(###bob-zed | #him-me)", bob="#me-al", zed="yes", al="no")
        self.check(company, "amy", {(T, F): {"amy": (F,)}, (T, T): {"amy": (T,)}})
        company["bob"] = read("##me-bob")
        company["bob", "bob"] = no()
        self.check(company, "amy", {(F, F): {"amy": (F,)}, (F, T): {"amy": (F, T)}, (T, T): {"amy": (T,)}})

    def test_new_dicts(self):
        company = of_texts(amy="#him-me")
        found = ends(company, "amy")
        kept = {pair: dict(rows) for pair, rows in found.items()}
        found[F, F].clear()
        found[T, F] = None
        self.assertEqual(ends(company, "amy"), kept)
        self.assertEqual(ends(company=company, name="amy"), kept)
        found = ends(company, "amy")
        rows = list(found.values())
        self.assertTrue(all(one is not other for one, other in itertools.combinations(rows, 2)))

    def test_kinds(self):
        found = ends(of_texts(amy="(#him-me & #him-bob)", bob="yes"), "amy")
        self.assertIs(type(found), dict)
        for pair, rows in found.items():
            self.assertEqual((type(pair), type(rows)), (tuple, dict))
            self.assertTrue(all(type(row) is tuple for row in rows.values()))
            for truth in pair + rows["amy"] + rows["bob"]:
                self.assertIs(type(truth), bool)

    def test_anew_behind_a_change(self):
        company = of_texts(amy="#him-bob", bob="no")
        self.assertIn((T, F), ends(company, "amy"))
        company["amy"] = read("#him-me")
        self.assertEqual(list(ends(company, "amy")), [(F, F), (F, T), (T, T)])
        self.assertTrue(is_safe(company, "amy"))
        company["amy"] = yes()
        self.assertEqual(list(ends(company, "amy")), [(T, F), (T, T)])
        self.assertFalse(is_safe(company, "amy"))

    def test_all_small_rules(self):
        leaves = (("act", "him", "me"), ("act", "me", "him"), ("no",))
        for form in oracle.forms(5, leaves):
            if against.is_boxed(form):
                told = {"amy": form}, {}
                found = {told[0]: rows for told, rows in against.least_rows(told, ["amy"], {}).items()}
                self.assertEqual(list(ends(company_of(told), "amy").items()), list(found.items()), form)

    def test_drawn(self):
        source = random.Random(71)
        widths, lengths, checked = set(), set(), 0
        while checked < 250:
            told, (name,) = against.drawn(source, NAMES, 9, 3, most=6)
            boxes, acts = against.size_of(told, [name], {})
            if (boxes + 1) * acts <= 9 and boxes > 0:
                found = {pair[0]: rows for pair, rows in against.least_rows(told, [name], {}).items()}
                self.check(company_of(told), name, found)
                widths.add(acts)
                lengths.update(len(rows[name]) for rows in found.values())
                checked += 1
        self.assertLessEqual({1, 2, 3}, widths)
        self.assertLessEqual({1, 2, 3}, lengths)

    def test_drawn_with_more_boxes(self):
        source = random.Random(72)
        for _ in range(300):
            told, (name,) = against.drawn(source, NAMES, 14, 3)
            company = company_of(told)
            found = ends(company, name)
            self.assertEqual(list(found), against.Walks(told, name).ends())
            for pair, rows in found.items():
                self.assertEqual(meeting(company, name, rows).end, pair)

    def test_no_drawn_row_ends_elsewhere(self):
        source = random.Random(73)
        for _ in range(200):
            told, (name,) = against.drawn(source, NAMES, 12, 3)
            company = company_of(told)
            found = ends(company, name)
            for _ in range(20):
                rows = {one: oracle.drawn_row(source, 12) for one in met(company, name)}
                self.assertIn(meeting(company, name, rows).end, found)


class Safe(unittest.TestCase):
    def test_known_players(self):
        company = of_texts(fair="#him-me", soft="~#~him-me", yea="yes", nay="no")
        for name, safe in (("fair", T), ("soft", F), ("yea", F), ("nay", T)):
            self.assertIs(is_safe(company, name), safe)
            self.assertIs(is_safe(name=name, company=company), safe)

    def test_told_by_who_is_kept_with(self):
        company = of_texts(amy="#him-bob", bob="no", al="(#him-me & #him-bob)", zed="(#him-me | #him-bob)")
        self.assertEqual([is_safe(company, name) for name in company.names()], [T, F, T, F])

    def test_just_if_that_end_is_none(self):
        source = random.Random(74)
        answers = []
        for _ in range(300):
            told, (name,) = against.drawn(source, NAMES, 10, 3)
            company = company_of(told)
            answers.append(is_safe(company, name))
            self.assertIs(answers[-1], (T, F) not in ends(company, name))
        self.assertGreater(answers.count(T), 50)
        self.assertGreater(answers.count(F), 50)

    def test_soft_ones_are_kept_with_for_nothing(self):
        company = of_texts(soft="~#~him-me")
        found = meeting(company, "soft", {"soft": (T, F)})
        self.assertEqual((found.row, found.end), ((F, T), (T, F)))
        self.assertEqual(ends(company, "soft")[T, F], {"soft": (T, F)})


class AtTheLimits(unittest.TestCase):
    def test_ten_boxes_and_three_acts(self):
        text = "((#him-me & #him-bob) | (#~him-al & #(me-him > him-me)))"
        text = "(" + text + " & ((##him-bob > #bob-him) | #(him-al | al-him)))"
        company = of_texts(amy=text, bob="(#him-me | ##~him-me)", al="~#(bob-him & #him-bob)")
        told = {name: company[name].form() for name in company.names()}, {}
        self.assertEqual(against.size_of(told, ["amy"], {}), (10, 3))
        self.assertEqual(list(ends(company, "amy")), against.Walks(told, "amy").ends())

    def test_many_sets(self):
        # For each choice of three acts a box that falls if x makes it, and two more that hang on those.
        parts = []
        for signs in itertools.product(("", "~"), repeat=3):
            inner = [sign + "him-" + name for sign, name in zip(signs, ("zed", "bob", "al"))]
            parts.append("#~(" + inner[0] + " & (" + inner[1] + " & " + inner[2] + "))")
        company = of_texts(zed="((" + parts[0] + " | " + parts[1] + ") | (#y-him & #xi-him))", bob="yes", al="no",
                           y="((" + parts[2] + " & " + parts[3] + ") | " + parts[4] + ")",
                           xi="((" + parts[5] + " | " + parts[6] + ") & " + parts[7] + ")")
        told = {name: company[name].form() for name in company.names()}, {}
        walks = against.Walks(told, "zed")
        self.assertEqual(against.size_of(told, ["zed"], {}), (10, 3))
        self.assertGreater(len(walks.sets), 400)
        found = ends(company, "zed")
        self.assertEqual(list(found), walks.ends())
        for pair, rows in found.items():
            self.assertEqual(meeting(company, "zed", rows).end, pair)
            self.assertTrue(all(len(row) <= 11 for row in rows.values()))

    def test_plain_rows_lead_there_too(self):
        company = Company({"amy": alternating(9)})
        for pair, rows in ends(company, "amy").items():
            self.assertEqual(meeting(company, "amy", {"amy": plain(rows["amy"])}).end, pair)


if __name__ == "__main__":
    unittest.main()
