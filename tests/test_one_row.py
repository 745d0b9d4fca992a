"""Point 29: a stranger that acts with everybody by one row."""

import random
import unittest

import against
from making import NAMES, company_of, of_texts
from boxfall.comparing import best_row, joint_ends
from boxfall.meetings import meeting, met
from boxfall.sayings import Saying, no

T, F = True, False
read = Saying.read
DILEMMA = (1, 3, 0, 2)


def drawn_names(seed, rounds, longest, most):
    """Drawn companies with one to three of their players, of whom some are told twice."""
    source = random.Random(seed)
    while rounds:
        told, names = against.drawn(source, NAMES, longest, 3, source.randint(1, 3), most, 7)
        rounds -= 1
        yield told, names


class JointEnds(unittest.TestCase):
    def check(self, company, names, told):
        for some in (list(names), tuple(names)):
            found = joint_ends(company, some)
            self.assertEqual(list(found.items()), list(told.items()))
            self.assertEqual(list(joint_ends(names=some, company=company)), list(told))

    def test_one_player(self):
        company = of_texts(fair="#him-me", yea="yes", nay="no", soft="~#~him-me")
        self.check(company, ["fair"], {((F, F),): (F,), ((F, T),): (F, T), ((T, T),): (T,)})
        self.check(company, ["yea"], {((T, F),): (F,), ((T, T),): (T,)})
        self.check(company, ["nay"], {((F, F),): (F,), ((F, T),): (T,)})
        self.check(company, ["soft"], {((F, F),): (F,), ((T, F),): (T, F), ((T, T),): (T,)})

    def test_several(self):
        company = of_texts(fair="#him-me", yea="yes", nay="no", soft="~#~him-me")
        self.check(company, ["fair", "soft"], {((F, F), (F, F)): (F,), ((F, F), (T, F)): (T, F),
                                               ((F, T), (T, T)): (F, T), ((T, T), (T, T)): (T,)})
        self.check(company, ["soft", "fair"], {((F, F), (F, F)): (F,), ((T, F), (F, F)): (T, F),
                                               ((T, T), (F, T)): (F, T), ((T, T), (T, T)): (T,)})
        self.check(company, ["nay", "yea", "fair"], {((F, F), (T, F), (F, F)): (F,), ((F, T), (T, T), (F, T)): (F, T),
                                                     ((F, T), (T, T), (T, T)): (T,)})

    def test_one_twice(self):
        company = of_texts(fair="#him-me", yea="yes")
        self.check(company, ["fair", "fair"], {((F, F), (F, F)): (F,), ((F, T), (F, T)): (F, T),
                                               ((T, T), (T, T)): (T,)})
        self.check(company, ["yea", "fair", "yea"], {((T, F), (F, F), (T, F)): (F,), ((T, T), (F, T), (T, T)): (F, T),
                                                     ((T, T), (T, T), (T, T)): (T,)})

    def test_one_row_for_all_that_are_met(self):
        company = of_texts(amy="(#him-me > #him-bob)", bob="#him-me", al="(#him-him & ~#him-amy)", zed="#bob-him")
        self.check(company, ["amy"], {((T, F),): (F,), ((T, T),): (T,)})
        self.check(company, ["al"], {((F, F),): (F,), ((F, T),): (T,)})
        self.check(company, ["zed", "bob"], {((F, F), (F, F)): (F,), ((F, T), (F, T)): (F, T),
                                             ((T, T), (T, T)): (T,)})

    def test_kinds(self):
        company = of_texts(fair="#him-me", yea="yes")
        found = joint_ends(company, ["fair", "yea"])
        self.assertIs(type(found), dict)
        for ends, row in found.items():
            self.assertEqual((type(ends), type(row), {type(end) for end in ends}), (tuple, tuple, {tuple}))
            for truth in row + ends[0] + ends[1]:
                self.assertIs(type(truth), bool)
        names = ["fair", "yea"]
        found.clear()
        self.assertEqual(len(joint_ends(company, names)), 3)
        self.assertEqual(names, ["fair", "yea"])

    def test_rows_lead_there(self):
        for told, names in drawn_names(121, 200, 10, 12):
            company = company_of(told)
            for ends, row in joint_ends(company, names).items():
                for name, end in zip(names, ends):
                    self.assertEqual(meeting(company, name, {one: row for one in met(company, name)}).end, end)

    def test_drawn(self):
        lengths, sizes = set(), set()
        for told, names in drawn_names(122, 150, 9, 6):
            found = joint_ends(company_of(told), names)
            self.assertEqual(list(found.items()), list(against.joint_ends(told, names).items()), (told, names))
            lengths.update(len(row) for row in found.values())
            sizes.add((len(names), len(set(names))))
        self.assertLessEqual({1, 2, 3}, lengths)
        self.assertLessEqual({(1, 1), (2, 1), (2, 2), (3, 2), (3, 3)}, sizes)

    def test_the_company_stays_and_changes_count(self):
        company = of_texts(fair="#him-me", yea="yes")
        twin = company.twin()
        joint_ends(company, ["fair", "yea"])
        best_row(company, ["fair", "yea"], DILEMMA)
        self.assertEqual(company, twin)
        company["yea"] = no()
        self.check(company, ["yea"], {((F, F),): (F,), ((F, T),): (T,)})
        self.assertEqual(best_row(company, ["yea"], DILEMMA), (1, (F,)))


class BestRow(unittest.TestCase):
    def check(self, company, names, worth, total, row):
        for some in (list(names), tuple(names)):
            for told in (list(worth), tuple(worth)):
                self.assertEqual(best_row(company, some, told), (total, row))
                self.assertEqual(best_row(worth=told, names=some, company=company), (total, row))

    def test_known_players(self):
        company = of_texts(fair="#him-me", yea="yes", nay="no", soft="~#~him-me")
        self.check(company, ["fair"], DILEMMA, 2, (T,))
        self.check(company, ["yea"], DILEMMA, 3, (F,))
        self.check(company, ["nay"], DILEMMA, 1, (F,))
        self.check(company, ["soft"], DILEMMA, 3, (T, F))
        self.check(company, ["fair", "soft"], DILEMMA, 4, (T,))
        self.check(company, ["fair", "soft", "soft"], DILEMMA, 7, (T, F))
        self.check(company, ["soft", "yea"], DILEMMA, 6, (T, F))
        self.check(company, ["nay", "yea"], DILEMMA, 4, (F,))

    def test_whose_act_is_whose(self):
        company = of_texts(yea="yes", nay="no")
        # x alone keeps is worth[2], the player alone is worth[1].
        self.check(company, ["nay"], (0, 0, 7, 0), 7, (T,))
        self.check(company, ["yea"], (0, 7, 0, 0), 7, (F,))
        self.check(company, ["nay"], (0, 7, 0, 0), 0, (F,))
        self.check(company, ["yea"], (0, 0, 7, 0), 0, (F,))
        self.check(company, ["yea", "nay"], (1, -4, -2, 9), 7, (T,))

    def test_the_least_of_the_best_rows(self):
        company = of_texts(fair="#him-me", soft="~#~him-me")
        self.check(company, ["fair"], (0, 0, 0, 0), 0, (F,))
        self.check(company, ["fair", "soft"], (-3, -3, -3, -3), -6, (F,))
        self.check(company, ["fair"], (0, 0, 5, 5), 5, (T,))
        self.check(company, ["fair", "soft"], (0, 5, 5, 0), 5, (F, T))
        self.check(company, ["soft"], (0, 1, 0, 1), 1, (T,))

    def test_kinds(self):
        found = best_row(of_texts(fair="#him-me"), ["fair"], DILEMMA)
        self.assertEqual((type(found), type(found[0]), type(found[1])), (tuple, int, tuple))
        self.assertIs(found[1][0], T)

    def test_arguments_are_not_changed(self):
        company = of_texts(fair="#him-me", yea="yes")
        names, worth = ["fair", "yea", "fair"], [1, 3, 0, 2]
        best_row(company, names, worth)
        self.assertEqual((names, worth), (["fair", "yea", "fair"], [1, 3, 0, 2]))

    def test_great_and_negative_worths(self):
        company = of_texts(fair="#him-me", yea="yes")
        self.check(company, ["fair", "yea"], (-10 ** 40, -10 ** 40, -10 ** 40, 10 ** 40), 2 * 10 ** 40, (T,))
        self.check(company, ["fair", "yea"], (-1, -1, -2, -5), -2, (F,))

    def test_drawn(self):
        source = random.Random(123)
        lengths = set()
        for told, names in drawn_names(124, 150, 9, 6):
            worth = tuple(source.randint(-3, 3) for _ in range(4))
            found = best_row(company_of(told), names, worth)
            self.assertEqual(found, against.best_row(told, names, worth), (told, names, worth))
            lengths.add(len(found[1]))
        self.assertLessEqual({1, 2, 3}, lengths)

    def test_at_the_limits(self):
        text = "(~(#him-me | ~#(#him-me | ~him-me)) | #(#(#him-me | ~him-me) | him-me))"
        company = of_texts(amy=text, bob="(#amy-him & ~##him-me)", al="#(##him-me > bob-him)")
        told = {name: company[name].form() for name in company.names()}, {}
        self.assertLessEqual(against.size_of(told, ["amy", "bob", "al"], {})[0], 10)
        names = ["amy", "bob", "al"]
        found = against.joint_ends(told, names)
        self.assertEqual(list(joint_ends(company, names).items()), list(found.items()))
        sums = {ends: sum([against.got(DILEMMA, act, own) for own, act in ends]) for ends in found}
        total, row = best_row(company, names, DILEMMA)
        self.assertEqual(total, max(sums.values()))
        self.assertIn(row, [found[ends] for ends in found if sums[ends] == total])


if __name__ == "__main__":
    unittest.main()
