"""Points 21 to 23, and of 25 that NoPlayer comes ahead of all else: meetings with the stranger."""

import itertools
import random
import unittest

import oracle
import players
from making import NAMES, company_of, drawn_with_lacking, of_texts
from boxfall.companies import Company, row_with
from boxfall.errors import NoPlayer, NoRow
from boxfall.meetings import Meeting, boxes_with, meeting, met
from boxfall.rows import height
from boxfall.sayings import Saying, no, yes

T, F = True, False
read = Saying.read
NO_PLAYERS = ("nobody", "x", "me", "him", "yes", "no", "", "Amy", "amy ", None, 0, 1, True, 2.5, [], ["amy"],
              ["amy", "bob"], (), ("amy",), ("amy", "bob"), {}, {"amy"}, b"amy", object(), yes(), Company)


def told_of(found):
    return found.row, found.sets, found.end


def drawn_meetings(seed, rounds, longest=8):
    """Drawn companies with one of their players and rows for those met, within the limits."""
    source = random.Random(seed)
    for _ in range(rounds):
        told = players.drawn_company(source, NAMES, longest, 3)
        name = source.choice(sorted(told[0]))
        if len(players.boxes_that_count(told, [(name, "x")])) <= 10:
            yield told, name, {one: oracle.drawn_row(source, 6) for one in players.met(told, name)}


class Met(unittest.TestCase):
    def check(self, company, name, names):
        found = met(company, name)
        self.assertEqual(found, names)
        self.assertIs(type(found), list)
        self.assertIsNot(found, met(company, name))
        self.assertEqual(met(company=company, name=name), names)

    def test_the_player_itself_always(self):
        for text in ("yes", "no", "#no", "#him-me", "#me-me", "#bob-me", "#me-him", "#bob-amy", "~#~(me-him & him-me)"):
            self.check(of_texts(amy=text, bob="yes", xi="no"), "amy", ["amy"])

    def test_acts_of_its_own_rule(self):
        company = of_texts(amy="#him-bob", bob="yes", xi="no")
        self.check(company, "amy", ["amy", "bob"])
        company["amy"] = read("(#him-xi > ##him-bob)")
        self.check(company, "amy", ["amy", "bob", "xi"])
        company["amy"] = read("#him-amy")
        self.check(company, "amy", ["amy"])
        self.check(company, "bob", ["bob"])

    def test_the_stranger_itself(self):
        company = of_texts(amy="#him-him", xi="(#him-him > #him-y)", y="yes", bob="#(him-him & him-al)", al="no")
        self.check(company, "amy", ["amy", "x"])
        self.check(company, "xi", ["x", "xi", "y"])
        self.check(company, "bob", ["al", "bob", "x"])

    def test_rules_of_others(self):
        company = of_texts(amy="#bob-him", bob="#him-me", al="#amy-him", zed="#(bob-him & al-him)", y="#bob-amy",
                           xi="#bob-zed")
        self.check(company, "amy", ["amy", "bob"])
        self.check(company, "al", ["al", "bob"])
        self.check(company, "zed", ["bob", "zed"])
        self.check(company, "y", ["y"])
        self.check(company, "xi", ["xi"])
        company["bob"] = read("#(him-me | him-zed)")
        self.check(company, "amy", ["amy", "bob", "zed"])
        self.check(company, "y", ["y"])

    def test_rules_of_their_own(self):
        company = of_texts(amy="#bob-al", bob="yes", al="#him-zed", zed="no")
        company["bob", "al"] = read("#(al-me > zed-me)")
        company["amy", "amy"] = read("#him-zed")
        company["amy", "bob"] = read("#him-zed")
        self.check(company, "amy", ["amy"])
        company["amy"] = read("#bob-him")
        company["bob"] = read("##him-al")
        self.check(company, "amy", ["al", "amy"])
        self.check(company, "al", ["al", "zed"])

    def test_drawn(self):
        sizes = set()
        for told, name, rows in drawn_meetings(61, 500):
            self.check(company_of(told), name, sorted(rows))
            sizes.add(len(rows))
        self.assertLessEqual({1, 2, 3}, sizes)


class BoxesWith(unittest.TestCase):
    def check(self, company, name, texts):
        found = boxes_with(company, name)
        self.assertEqual(found, texts)
        self.assertIs(type(found), list)
        self.assertIsNot(found, boxes_with(company, name))
        self.assertEqual(boxes_with(company=company, name=name), texts)

    def test_names_in_the_place_of_me_and_him(self):
        company = of_texts(amy="#him-me", bob="(#me-him | ##him-him)", al="yes", zed="~#(him-me > amy-him)", y="no",
                           c="#no")
        self.check(company, "amy", ["#x-amy"])
        self.check(company, "bob", ["##x-x", "#bob-x", "#x-x"])
        self.check(company, "al", [])
        self.check(company, "y", [])
        self.check(company, "c", ["#no"])
        self.check(company, "zed", ["#(x-zed > amy-x)", "#x-amy"])
        company["zed"] = read("#me-me")
        self.check(company, "zed", ["#zed-zed"])

    def test_each_once_and_ascending(self):
        company = of_texts(amy="((#him-me & #him-amy) | (##him-me & #bob-him))",
                           bob="(#(no | #him-amy) > ~#(me-him & yes))")
        self.check(company, "amy", ["##x-amy", "#(bob-x & yes)", "#(no | #x-amy)", "#bob-x", "#x-amy"])
        self.check(company, "bob", ["#(bob-x & yes)", "#(no | #x-amy)", "#x-amy"])

    def test_rules_of_others_for_others(self):
        company = of_texts(amy="#bob-al", bob="#him-me", al="~#no", zed="yes")
        self.check(company, "amy", ["#al-bob", "#bob-al", "#no"])
        company["bob", "al"] = read("###zed-me")
        self.check(company, "amy", ["###zed-bob", "##zed-bob", "#bob-al", "#zed-bob"])

    def test_drawn(self):
        for told, name, _ in drawn_meetings(62, 500):
            texts = [oracle.text_of(box) for box in players.boxes_that_count(told, [(name, "x")])]
            self.check(company_of(told), name, texts)


class Meetings(unittest.TestCase):
    def check(self, company, name, rows, row, sets, end):
        found = meeting(company, name, rows)
        self.assertEqual(told_of(found), (row, sets, end), (name, rows))

    def test_known_players(self):
        company = of_texts(fair="#him-me", yea="yes", nay="no", soft="~#~him-me")
        for name, row, told, sets, end in (
                ("fair", (T,), (T,), [()], (T, T)), ("fair", (F,), (T, F), [(), (0,)], (F, F)),
                ("fair", (T, F), (T, T, F), [(), (), (0,)], (F, F)), ("fair", (F, T), (T, F), [(), (0,)], (F, T)),
                ("fair", (F, F, T), (T, F), [(), (0,), (0,)], (F, T)), ("yea", (F,), (T,), [()], (T, F)),
                ("yea", (T,), (T,), [()], (T, T)), ("nay", (T,), (F,), [()], (F, T)), ("nay", (F,), (F,), [()], (F, F)),
                ("yea", (T, F), (T,), [(), ()], (T, F)), ("nay", (T, F, T), (F,), [(), (), ()], (F, T)),
                ("soft", (T, F), (F, T), [(), (0,)], (T, F)), ("soft", (T,), (F, T), [(), (0,)], (T, T)),
                ("soft", (F,), (F,), [()], (F, F)), ("soft", (F, F, T), (F, F, F, T), [(), (), (), (0,)], (T, T))):
            self.check(company, name, {name: row}, told, sets, end)

    def test_kinds(self):
        found = meeting(of_texts(amy="(#him-me & #him-bob)", bob="yes"), "amy", {"amy": [T], "bob": [T, F]})
        self.assertIsInstance(found, Meeting)
        self.assertEqual(told_of(found), ((T, T, F), [(), (), (1,)], (F, T)))
        self.assertEqual([type(thing) for thing in told_of(found)], [tuple, list, tuple])
        self.assertEqual([type(fallen) for fallen in found.sets], [tuple] * 3)
        self.assertTrue(all(truth is True or truth is False for truth in found.row + found.end))
        self.assertEqual(sorted(vars(found)), ["end", "row", "sets"])

    def test_rows_that_are_not_plain(self):
        company = of_texts(amy="#him-me", bob="yes")
        self.check(company, "amy", {"amy": (T,) * 30}, (T,), [()], (T, T))
        self.check(company, "amy", {"amy": [F] * 30}, (T, F), [(), (0,)], (F, F))
        self.check(company, "amy", {"amy": (T, F, F, F, F)}, (T, T, F), [(), (), (0,)], (F, F))
        self.check(company, "bob", {"bob": (F, F, T, T, T)}, (T,), [(), (), ()], (T, T))

    def test_late_changes(self):
        company = of_texts(amy="#him-me", bob="yes")
        for length in range(1, 30):
            row = (T,) * length + (F,)
            self.check(company, "amy", {"amy": row}, (T,) * (length + 1) + (F,), [()] * (length + 1) + [(0,)], (F, F))
            self.check(company, "bob", {"bob": row}, (T,), [()] * (length + 1), (T, F))
            self.check(company, "amy", {"amy": (F,) * length + (T,)}, (T, F), [()] + [(0,)] * length, (F, T))
        company = of_texts(amy="#" * 10 + "him-me")
        self.check(company, "amy", {"amy": (T,) * 29 + (F,)}, (T,) * 39 + (F,),
                   [()] * 30 + [tuple(range(10 - many, 10)) for many in range(1, 11)], (F, F))

    def test_a_row_without_a_box_that_hangs_on_it(self):
        company = of_texts(amy="#bob-him", bob="#him-me")
        self.check(company, "amy", {"amy": (T, F, T, F), "bob": (T,)}, (T,), [()] * 4, (T, F))
        self.check(company, "amy", {"amy": (T, T, F), "bob": (F,)}, (T, T, F), [(), (1,), (0, 1)], (F, F))
        self.check(company, "amy", {"amy": (F,), "bob": (T, T, F)}, (T, T, T, T, F),
                   [(), (), (), (1,), (0, 1)], (F, F))

    def test_the_end_of_a_row_that_ends_late(self):
        company = of_texts(amy="~#him-me")
        self.check(company, "amy", {"amy": (T, T, F, T)}, (F, F, F, T), [(), (), (), (0,)], (T, T))
        self.check(company, "amy", {"amy": (T, T, F)}, (F, F, F, T), [(), (), (), (0,)], (T, F))
        self.check(company, "amy", {"amy": (T, F, T, F, T)}, (F, F, T), [(), (), (0,), (0,), (0,)], (T, T))

    def test_stranger_with_itself(self):
        company = of_texts(amy="(#him-him > #him-me)")
        self.check(company, "amy", {"amy": (F,), "x": (T,)}, (T, F), [(), (0,)], (F, F))
        self.check(company, "amy", {"amy": (F,), "x": (T, F)}, (T, F, T), [(), (0,), (0, 1)], (T, F))
        self.check(company, "amy", {"amy": (T,), "x": (F,)}, (T,), [(), (1,)], (T, T))

    def test_further_names(self):
        company = of_texts(amy="#him-me", bob="#him-me")
        rows = {"amy": [T, F], "bob": (T, F, T), "x": None, "zz": (), 5: (T,), None: "row", ("amy", "x"): [F]}
        self.check(company, "amy", rows, (T, T, F), [(), (), (0,)], (F, F))

    def test_lists_and_tuples(self):
        company = of_texts(amy="(#him-me & #him-bob)", bob="yes")
        told = told_of(meeting(company, "amy", {"amy": (T, F), "bob": (T,)}))
        for amy, bob in (((T, F), [T]), ([T, F], (T,)), ([T, F], [T])):
            self.assertEqual(told_of(meeting(company=company, name="amy", rows={"amy": amy, "bob": bob})), told)

    def test_nothing_is_changed(self):
        company = of_texts(amy="(#him-me & #him-bob)", bob="yes")
        twin = company.twin()
        row = [T, F, F]
        rows = {"bob": [T], "amy": row, "al": None}
        found = meeting(company, "amy", rows)
        told = told_of(found)
        self.assertEqual(rows, {"bob": [T], "amy": [T, F, F], "al": None})
        self.assertEqual(list(rows), ["bob", "amy", "al"])
        self.assertIs(rows["amy"], row)
        self.assertEqual(company, twin)
        row[1] = T
        rows.clear()
        company["amy"] = no()
        self.assertEqual(told_of(found), told)
        found.sets.clear()
        self.assertEqual(meeting(twin, "amy", {"amy": [T, F], "bob": [T]}).sets, [(), (), (0,)])

    def test_small_ones_for_all_rows(self):
        rows = [row for length in (1, 2, 3) for row in itertools.product((F, T), repeat=length)]
        texts = ("#him-me", "~#~him-me", "#(me-him > him-me)", "(#him-me | #~him-me)", "##him-me", "#~#him-me",
                 "(#no | ~#~##him-me)", "(#him-me & ~#me-me)", "#(#him-me > him-me)")
        for text in texts:
            company = of_texts(amy=text)
            for row in rows:
                told = players.meeting(({"amy": read(text).form()}, {}), "amy", {"amy": row})
                self.assertEqual(told_of(meeting(company, "amy", {"amy": row})), told, (text, row))

    def test_drawn(self):
        lengths = set()
        for told, name, rows in drawn_meetings(63, 1200):
            company = company_of(told)
            found = meeting(company, name, {one: list(row) for one, row in rows.items()})
            self.assertEqual(told_of(found), players.meeting(told, name, rows), (told, name, rows))
            lengths.add(len(found.sets))
        self.assertLessEqual(set(range(1, 8)), lengths)

    def test_a_stranger_that_acts_like_a_player(self):
        company = of_texts(amy="#him-me", bob="~#~him-me", al="(#him-me > #no)", zed="#~#~him-me")
        for one, other in itertools.product(company.names(), repeat=2):
            found = meeting(company, one, {one: row_with(company, other, one)})
            self.assertEqual(found.row, row_with(company, one, other))

    def test_fair_ones_are_safe(self):
        company = of_texts(fair="#him-me")
        for row in itertools.product((F, T), repeat=5):
            found = meeting(company, "fair", {"fair": row})
            self.assertNotEqual(found.end, (T, F))
            self.assertEqual(height(found.row) == 0, all(row))

    def test_at_the_limits(self):
        text = "((#him-me & #him-bob) | (#~him-al & #(me-him > him-me)))"
        text = "(" + text + " & ((##him-bob > #bob-him) | #(him-al | al-him)))"
        company = of_texts(amy=text, bob="(#him-me | #~him-me)", al="~#bob-him")
        self.assertLessEqual(len(boxes_with(company, "amy")), 10)
        source = random.Random(64)
        for _ in range(30):
            rows = {name: tuple(source.random() < 0.8 for _ in range(30)) for name in ("al", "amy", "bob")}
            told = ({name: company[name].form() for name in company.names()}, {})
            self.assertEqual(told_of(meeting(company, "amy", rows)), players.meeting(told, "amy", rows))


class Errors(unittest.TestCase):
    def check(self, error, name, work, *told):
        with self.assertRaises(error) as caught:
            work(*told)
        self.assertIs(type(caught.exception), error)
        self.assertEqual(caught.exception.name, name)

    def check_player(self, company, name, lacking):
        self.check(NoPlayer, lacking, met, company, name)
        self.check(NoPlayer, lacking, boxes_with, company, name)
        for rows in ({}, {name: (T,)}, {"zz": (T,)}):
            self.check(NoPlayer, lacking, meeting, company, name, rows)

    def test_who_is_no_player(self):
        company = of_texts(amy="#aa-me", bob="yes")
        for thing in NO_PLAYERS:
            for work in (lambda: met(company, thing), lambda: boxes_with(company, thing),
                         lambda: meeting(company, thing, {}), lambda: meeting(company, thing, {"amy": (T,)})):
                with self.assertRaises(NoPlayer) as caught:
                    work()
                self.assertIs(caught.exception.name, thing)

    def test_a_name_that_lacks(self):
        for text, name in (("#zed-me", "zed"), ("#him-zed", "zed"), ("#zed-him", "zed"), ("(#zed-al > #cat-him)", "al"),
                           ("#(him-him & bob-cat)", "cat"), ("(yes | ##him-ox)", "ox"), ("(#xx-him & #him-y)", "xx")):
            self.check_player(of_texts(amy=text, bob="yes"), "amy", name)

    def test_a_name_of_a_rule_that_is_led_to(self):
        company = of_texts(amy="#bob-him", bob="#him-zed", al="#bob-amy", y="#him-me")
        self.check_player(company, "amy", "zed")
        self.check_player(company, "bob", "zed")
        self.check_player(company, "al", "zed")
        self.assertEqual(met(company, "y"), ["y"])
        company["bob", "amy"] = yes()
        self.assertEqual(met(company, "al"), ["al"])
        self.check_player(company, "amy", "zed")
        company["zed"] = read("#aa-me")
        self.assertEqual(met(company, "amy"), ["amy", "zed"])
        company["bob"] = read("#zed-him")
        self.check_player(company, "amy", "aa")

    def test_drawn_names_that_lack(self):
        lacking = 0
        for told in drawn_with_lacking(65, 300):
            for name in told[0]:
                least = players.least_lacking(told, [(name, "x")])
                if least is not None:
                    self.check_player(company_of(told), name, least)
                    lacking += 1
        self.assertGreater(lacking, 100)

    def test_the_least_of_those_met_without_a_row(self):
        company = of_texts(bob="(#him-me & (#him-xi | #(him-him > him-al)))", al="yes", xi="no")
        self.assertEqual(met(company, "bob"), ["al", "bob", "x", "xi"])
        rows = {"zed": (T,), "me": (T,), "him": (F,)}
        for name in ("al", "bob", "x", "xi"):
            self.check(NoRow, name, meeting, company, "bob", rows)
            rows[name] = (T, F)
        self.assertEqual(meeting(company, "bob", rows).end[1], F)
        for name in ("al", "bob", "x", "xi"):
            self.check(NoRow, name, meeting, company, "bob", {one: rows[one] for one in rows if one != name})
        self.check(NoRow, "al", meeting, company, "al", {"xi": (T,)})

    def test_behind_an_error_all_is_as_it_was(self):
        company = of_texts(amy="#him-me", bob="#him-zed")
        twin = company.twin()
        rows = {"al": [T]}
        self.check(NoRow, "amy", meeting, company, "amy", rows)
        self.check(NoPlayer, "zed", meeting, company, "bob", rows)
        self.assertEqual(rows, {"al": [T]})
        self.assertEqual(company, twin)


if __name__ == "__main__":
    unittest.main()
