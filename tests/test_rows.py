"""Points 10 to 14: levels, rows, and the sayings of rows."""

import itertools
import random
import unittest

import oracle
from boxfall.errors import NoActs, NoRow
from boxfall.rows import as_saying, height, plain, row_of
from boxfall.sayings import Saying, act, letter, no, yes

T, F = True, False
LETTERS = (("yes",), ("no",), ("letter", "p"), ("letter", "q"), ("letter", "r"))


def all_rows(most):
    for length in range(1, most + 1):
        yield from itertools.product((F, T), repeat=length)


class Plain(unittest.TestCase):
    def test_told(self):
        for row, told in (((T,), (T,)), ((F,), (F,)), ((T, T), (T,)), ((F, F, F), (F,)), ((T, F), (T, F)),
                          ((F, T, T), (F, T)), ((T, T, F), (T, T, F)), ((T, F, T, F), (T, F, T, F)),
                          ((T, F, F, T, T, T), (T, F, F, T)), ((F, F, T, F, F), (F, F, T, F))):
            self.assertEqual(plain(row), told)
            self.assertEqual(plain(list(row)), told)

    def test_all_short_rows(self):
        for row in all_rows(8):
            found = plain(row)
            self.assertEqual(found, oracle.plain(row))
            self.assertIsInstance(found, tuple)
            self.assertEqual(plain(found), found)

    def test_long_rows(self):
        self.assertEqual(plain((T,) * 30), (T,))
        self.assertEqual(plain((F,) * 29 + (T,)), (F,) * 29 + (T,))
        self.assertEqual(plain((T,) + (F,) * 29), (T, F))
        self.assertEqual(plain((T, F) * 15), (T, F) * 15)

    def test_truths(self):
        for row in all_rows(4):
            self.assertTrue(all(truth is True or truth is False for truth in plain(row)))


class Height(unittest.TestCase):
    def test_told(self):
        for row, told in (((T,), 0), ((T, T, T), 0), ((F,), None), ((F, F), None), ((T, F), None),
                          ((F, T), 1), ((F, F, T), 2), ((T, F, T), 2), ((T, F, T, T), 2),
                          ((T, T, F, T, F, T), 5), ((F, T, F), None), ((F, T, F, F), None)):
            self.assertEqual(height(row), told)
            self.assertEqual(height(list(row)), told)

    def test_all_short_rows(self):
        for row in all_rows(8):
            told = [level for level in range(len(row)) if all(row[level:])]
            self.assertEqual(height(row), told[0] if told else None)

    def test_long_rows(self):
        self.assertEqual(height((F,) * 29 + (T,)), 29)
        self.assertEqual(height((F,) + (T,) * 29), 1)
        self.assertIsNone(height((T,) * 29 + (F,)))

    def test_shown_is_height_nought(self):
        self.assertEqual(height(row_of(Saying.read("(#no | ~#no)"), {})), 0)
        self.assertIs(type(height((T,))), int)


class RowOf(unittest.TestCase):
    def check(self, text, told, **rows):
        self.assertEqual(row_of(Saying.read(text), rows), told, text)

    def test_without_letters(self):
        for text, told in (("yes", (T,)), ("no", (F,)), ("~yes", (F,)), ("~no", (T,)), ("#yes", (T,)),
                           ("#no", (T, F)), ("##no", (T, T, F)), ("###no", (T, T, T, F)), ("~#no", (F, T)),
                           ("#~#no", (T, F)), ("~#~#no", (F, T)), ("#(yes & no)", (T, F)),
                           ("(#no & ~##no)", (F,)), ("(~#no & ##no)", (F, T, F)), ("(#no | ~##no)", (T, F, T)),
                           ("(#no > no)", (F, T)), ("(yes > #no)", (T, F)), ("(#no > #no)", (T,)),
                           ("#(#no > no)", (T, F)), ("(##no > #no)", (T, F, T))):
            self.check(text, told)

    def test_joints(self):
        p, q = (F, F, T, T), (F, T, F, T)
        self.check("(p & q)", (F, F, F, T), p=p, q=q)
        self.check("(p | q)", (F, T), p=p, q=q)
        self.check("(p > q)", (T, T, F, T), p=p, q=q)
        self.check("(q > p)", (T, F, T), p=p, q=q)
        self.check("~p", (T, T, F), p=p, q=q)
        self.check("p", (F, F, T), p=p, q=q)

    def test_beyond_the_end(self):
        self.check("p", (T, F), p=(T, F, F, F))
        self.check("(p & q)", (T, F, T), p=(T,), q=(T, F, T))
        self.check("(#p & q)", (F, F, F, T, F), p=(T, T, T, F), q=(F, F, F, T))
        self.check("#p", (T, T, T, F), p=(T, T, F))
        self.check("##p", (T, T, T, T, F), p=(T, T, F))
        self.check("#p", (T,), p=(T, T))
        self.check("#p", (T, F), p=(F, T, T, T))

    def test_every_box_is_true_at_level_nought(self):
        for form in oracle.forms(4, (("yes",), ("no",), ("letter", "p"))):
            for row in ((T,), (F,), (F, T)):
                self.assertIs(row_of(Saying(("box", form)), {"p": row})[0], True)

    def test_nested_boxes(self):
        self.check("#(#p > p)", (T, T, F), p=(T, F, T))
        self.check("(#(#p > p) > #p)", (T,), p=(T, F, T))
        self.check("#(#p | #q)", (T, T, T, F), p=(F,), q=(T, F))
        self.check("#~#~p", (T, F), p=(F, T))
        self.check("#~#p", (T, F), p=(T, F))
        self.check("~#~p", (F, F, T), p=(F, T))

    def test_result_is_plain(self):
        self.check("(p | ~p)", (T,), p=(T, F, T, F))
        self.check("p", (T, F), p=[T, F, F])
        self.assertIsInstance(row_of(letter("p"), {"p": [T, F, F]}), tuple)

    def test_further_rows(self):
        rows = {"q": (T, F) * 15, "me": (T,), "r": None, "zz": (), "p": (F, T)}
        self.assertEqual(row_of(letter("p"), rows), (F, T))
        self.assertEqual(row_of(Saying.read("#p"), rows), (T, F))
        self.assertEqual(row_of(yes(), rows), (T,))

    def test_all_small_forms(self):
        rows = [row for row in all_rows(3)]
        for form in oracle.forms(4, (("no",), ("letter", "p"))):
            for row in rows:
                self.assertEqual(row_of(Saying(form), {"p": row}), oracle.row_of(form, {"p": row}))

    def test_drawn(self):
        source = random.Random(12)
        for _ in range(1500):
            form = oracle.drawn(source, source.randint(1, 25), LETTERS)
            rows = {name: oracle.drawn_row(source, 6) for name in "pqr"}
            if len(oracle.boxes_of(form)) <= 12:
                self.assertEqual(row_of(Saying(form), rows), oracle.row_of(form, rows))

    def test_long_rows(self):
        for length in (1, 2, 29, 30):
            row = (T,) * (length - 1) + (F,)
            self.check("#p", (T,) * length + (F,), p=row)
            self.check("####p", (T,) * (length + 3) + (F,), p=row)
            self.check("(#p > p)", (T,) * (length - 1) + (F, T), p=row)

    def test_many_boxes(self):
        for boxes in range(25):
            saying = Saying.read("#" * boxes + "no")
            self.assertEqual(row_of(saying, {}), (T,) * boxes + (F,))


class RowErrors(unittest.TestCase):
    def check_name(self, text, rows, name):
        with self.assertRaises(NoRow) as caught:
            row_of(Saying.read(text), rows)
        self.assertIs(type(caught.exception), NoRow)
        self.assertEqual(caught.exception.name, name)

    def test_acts(self):
        for text in ("me-him", "#me-him", "(p & #bob-amy)", "(yes | #~him-me)", "(p & me-me)"):
            for rows in ({}, {"p": (T,)}, {"p": (T,), "me-him": (T,), "me": (T,), "him": (F,)}):
                with self.assertRaises(NoActs) as caught:
                    row_of(Saying.read(text), rows)
                self.assertIs(type(caught.exception), NoActs)
        with self.assertRaises(NoActs):
            row_of(act("me", "him"), {})

    def test_least_letter_without_a_row(self):
        self.check_name("p", {}, "p")
        self.check_name("#p", {"q": (T,)}, "p")
        self.check_name("(q & p)", {}, "p")
        self.check_name("(q & p)", {"p": (T,)}, "q")
        self.check_name("(p & q)", {"q": (T,)}, "p")
        self.check_name("(c & (b > #a))", {"b": (F,)}, "a")
        self.check_name("(c & (b > #a))", {"a": (T,)}, "b")
        self.check_name("(c & (b > #a))", {"a": (T,), "b": (T,), "d": (T,)}, "c")
        self.check_name("(no & ##deep)", {"no": (T,)}, "deep")

    def test_none_needed(self):
        self.assertEqual(row_of(no(), {}), (F,))
        self.assertEqual(row_of(Saying.read("#no"), {}), (T, F))


class AsSaying(unittest.TestCase):
    def test_told(self):
        for row, text in (((T,), "yes"), ((F,), "no"), ((T, T, T), "yes"), ((F, F), "no"), ((T, F), "#no"),
                          ((F, T), "~#no"), ((T, T, F), "##no"), ((F, F, T, T), "~##no"),
                          ((T, F, T), "(#no | ~##no)"), ((F, T, F), "(~#no & ##no)"),
                          ((T, F, T, F), "(#no | (~##no & ###no))"),
                          ((F, T, F, T), "(~#no & (##no | ~###no))"),
                          ((T, T, F, F, F, T, T), "(##no | ~#####no)"),
                          ((F, F, F, T, F, F, F), "(~###no & ####no)"),
                          ((T, F, F, T, F), "(#no | (~###no & ####no))")):
            self.assertEqual(as_saying(row).text(), text)
            self.assertEqual(as_saying(list(row)).text(), text)
            self.assertIsInstance(as_saying(row), Saying)

    def test_all_short_rows(self):
        for row in all_rows(8):
            saying = as_saying(row)
            self.assertEqual(saying.form(), oracle.as_form(row))
            self.assertEqual(row_of(saying, {}), oracle.plain(row))

    def test_made_of_no_alone(self):
        for row in all_rows(7):
            leaves = {sign[0] for sign in oracle.signs_of(as_saying(row).form()) if len(sign) == 1}
            self.assertEqual(leaves, {"yes"} if all(row) else {"no"})

    def test_equal_truths_at_the_end(self):
        for row in all_rows(5):
            self.assertEqual(as_saying(row), as_saying(row + row[-1:] * 3))
            self.assertEqual(as_saying(row), as_saying(oracle.plain(row)))

    def test_long_rows(self):
        source = random.Random(13)
        rows = [(T, F) * 15, (F, T) * 15, (T,) * 30, (F,) * 30, (F,) * 29 + (T,), (T,) * 29 + (F,)]
        rows.extend(tuple(source.random() < 0.5 for _ in range(30)) for _ in range(20))
        for row in rows:
            self.assertEqual(as_saying(row).form(), oracle.as_form(row))

    def test_rows_of_long_ones(self):
        for level in range(1, 25):
            for row in ((T,) * level + (F,), (F,) * level + (T,)):
                self.assertEqual(row_of(as_saying(row), {}), row)
        for row in ((T,) * 10 + (F,) * 8 + (T,) * 12, (F,) * 5 + (T,) * 9 + (F,) * 3 + (T,)):
            self.assertEqual(row_of(as_saying(row), {}), oracle.plain(row))


class Facts(unittest.TestCase):
    def test_changes_at_most_as_often_as_it_has_boxes(self):
        for form in oracle.forms(6, (("yes",), ("no",))):
            row = row_of(Saying(form), {})
            changes = sum(row[level] != row[level - 1] for level in range(1, len(row)))
            self.assertLessEqual(changes, len(Saying(form).boxes()))

    def test_drawn_changes(self):
        source = random.Random(14)
        for _ in range(500):
            saying = Saying(oracle.drawn(source, source.randint(7, 60), (("no",), ("yes",))))
            if len(saying.boxes()) <= 24:
                row = row_of(saying, {})
                changes = sum(row[level] != row[level - 1] for level in range(1, len(row)))
                self.assertLessEqual(changes, len(saying.boxes()))

    def test_loeb(self):
        saying = Saying.read("(#(#p > p) > #p)")
        source = random.Random(15)
        rows = list(all_rows(7)) + [oracle.drawn_row(source, 30) for _ in range(300)]
        for row in rows:
            self.assertEqual(row_of(saying, {"p": row}), (T,))
        self.assertEqual(height(row_of(saying, {"p": (T, F)})), 0)

    def test_what_is_not_loeb(self):
        self.assertEqual(row_of(Saying.read("(#p > p)"), {"p": (T, F)}), (T, F, T))
        self.assertEqual(row_of(Saying.read("(#(p > #p) > #p)"), {"p": (F, T)}), (T, F, T))


if __name__ == "__main__":
    unittest.main()
