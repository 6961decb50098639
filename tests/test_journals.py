"""Journals against lines made by hand, and against a desk that is told the same lines."""
import unittest

import helper
from helper import HOUSE, PLAIN, TEXT, seeded
from housekept import bench, desk, errors, journals, machines, readtexts, rules, texts

OTHER = TEXT[:5] + (TEXT[5][:3] + (((("button", 1), ("always",), (("say", 7),)),)),)


def random_deed(rand, one):
    """Do some deed at a bench; it may raise an error."""
    kind, door, side = rand.choice(HOUSE[3]), rand.choice([row[0] for row in HOUSE[2]]), rand.randint(0, 1)
    share = rand.random()
    if share < 0.3:
        one.show(kind, door, side)
    elif share < 0.55:
        one.go(kind, door, side)
    elif share < 0.8:
        one.signal(rand.choice([signal for signal in rules.signals(TEXT) if signal[0] not in ("card", "pass")] + [("tick",)] * 9))
    elif share < 0.85:
        one.exchange(rand.choice([TEXT, OTHER, helper.RINGS]))
    elif share < 0.9:
        one.keep(rand.choice("ab"))
    elif share < 0.95:
        one.back(rand.choice("ab"))
    else:
        one.undo()


def busy(rand, many=30):
    one = bench.Bench(TEXT, [2, 1])
    for _ in range(many):
        try:
            random_deed(rand, one)
        except errors.KeptError:
            pass
    return one


class Journals(unittest.TestCase):
    def test_by_hand(self):
        one = bench.Bench(TEXT, [2, 1])
        one.show("guest", "front", 0)
        one.go("guest", "front", 0)
        one.keep("a")
        one.signal(("smoke", "lab", "yes"))
        one.signal(("tick",))
        one.undo()
        one.back("a")
        one.exchange(helper.RINGS)
        one.signal(("button", 3))
        one.signal(("button", 2))
        one.signal(("stuck", "front"))
        one.signal(("mended", "front"))
        lines = ["show guest front 0 : 1", "go guest front 0 : -", "keep a : ok", "smoke lab yes : 9", "back a : ok",
                 "exchange\n" + texts.text_of(helper.RINGS) + " : ok", "button 3 : endless", "button 2 : 4", "stuck front : -",
                 "mended front : -"]
        self.assertEqual(journals.journal(one), lines)
        self.assertIsNone(journals.first_wrong(TEXT, [2, 1], lines))
        self.assertIsNone(journals.first_wrong(TEXT, (2, 1), tuple(lines)))
        self.assertIsNone(journals.first_wrong(text=TEXT, household=[2, 1], lines=[]))
        self.assertEqual(journals.first_wrong(TEXT, (0, 1), lines), 0)
        for at in range(len(lines)):
            for wrong in (lines[at] + " ", lines[at][:-1], " " + lines[at], lines[at] + " 1", lines[at].replace(" : ", ": "),
                          lines[at].replace(" : ", " :  "), "", "tick", "-", " : -", lines[at] + "\n", "undo : ok", "doors : -",
                          "read 2 1\n" + texts.text_of(TEXT) + " : ok", "crowd : -", "keep A : ok", "back c : ok", "tick : endless",
                          "button 6 : -", "button 01 : -", "button 1 1 : -", "show guest front 2 : -", "show guest inner 0 : ok",
                          "go staff inner 1 : -", "exchange : ok", "exchange\nno : ok",
                          "exchange\n" + texts.text_of(PLAIN) + " : ok", "exchange \n" + texts.text_of(TEXT) + " : ok"):
                self.assertEqual(journals.first_wrong(TEXT, [2, 1], lines[:at] + [wrong] + lines[at + 1:]), at, wrong)
        # The first wrong one of several; a line left out can make a later one wrong.
        self.assertEqual(journals.first_wrong(TEXT, [2, 1], lines[:3] + ["no"] + lines[4:7] + ["no"]), 3)
        self.assertEqual(journals.first_wrong(TEXT, [2, 1], lines[1:]), 0)
        self.assertEqual(journals.first_wrong(TEXT, [2, 1], lines[:2] + lines[3:]), 3)

    def test_against_a_desk(self):
        rand = seeded(1)
        seen = {}
        for _ in range(25):
            one = busy(rand)
            log = one.log
            lines = journals.journal(one)
            self.assertEqual(len(lines), len(one))
            other = desk.Desk()
            other.say("read 2 1\n" + texts.text_of(TEXT))
            for deed, line in zip(log, lines):
                told, _, answer = line.rpartition(" : ")
                self.assertEqual(other.say(told), answer)
                seen[deed[0]] = True
            self.assertEqual(one.log, log)
            self.assertIsNone(journals.first_wrong(TEXT, [2, 1], lines))
            again = bench.Bench(TEXT, [2, 1])
            for line in lines:
                journals.answer_to(again, journals.deed_told(line.rpartition(" : ")[0]))
            self.assertEqual(again, one)
            for at in range(len(lines)):
                told, _, answer = lines[at].rpartition(" : ")
                for new in ("-", "ok", "1", "endless"):
                    if new != answer:
                        changed = lines[:at] + [told + " : " + new] + lines[at + 1:]
                        self.assertEqual(journals.first_wrong(TEXT, [2, 1], changed), at)
        self.assertEqual(set(seen), {"show", "go", "signal", "exchange", "keep", "back"})

    def test_answers_as_they_were_given(self):
        rand = seeded(2)
        for _ in range(20):
            one = bench.Bench(TEXT, [1, 2])
            told = []
            for _ in range(15):
                try:
                    account = one.show(rand.choice(HOUSE[3]), "front", 0) if rand.random() < 0.5 else one.signal(
                        ("button", 1) if rand.random() < 0.5 else ("tick",))
                    told.append(" ".join([str(word) for word in account[2]] + ["endless"] * account[4]) or "-")
                except errors.KeptError:
                    pass
            self.assertEqual([line.rpartition(" : ")[2] for line in journals.journal(one)], told)

    def test_too_long(self):
        long = helper.counting("b", 1023)
        one = bench.Bench(long, [0])
        with self.assertRaises(errors.TooLong):
            one.signal(("button", 0))
        self.assertEqual(journals.journal(one), [])
        self.assertEqual(journals.first_wrong(long, [0], ["tick : -", "button 0 : -"]), 1)

    def test_wrong(self):
        for value in helper.any_values():
            if not isinstance(value, bench.Bench):
                with self.assertRaises(errors.BadBench):
                    journals.journal(value)
            with self.assertRaises(errors.BadText):
                journals.first_wrong(value, None, None)
            with self.assertRaises(errors.BadHousehold):
                journals.first_wrong(TEXT, value, None)
            if value not in ([], ()) and not (isinstance(value, (list, tuple)) and all(type(line) is str for line in value)):
                with self.assertRaises(errors.BadLines):
                    journals.first_wrong(TEXT, [1, 1], value)
        for household in ([20, 1], [1], [1, True], [1, -1], "11"):
            with self.assertRaises(errors.BadHousehold):
                journals.first_wrong(TEXT, household, None)
        self.assertIsNone(journals.first_wrong(TEXT, [20, 0], []))
        for lines in (["tick : -", None], "tick : -", {"tick : -": 1}, ["tick : -", ["tick : -"]], None, 0):
            with self.assertRaises(errors.BadLines):
                journals.first_wrong(TEXT, [1, 1], lines)
        self.assertEqual(readtexts.text_from(texts.text_of(OTHER)), OTHER)
        self.assertEqual(len(machines.Machine(PLAIN, ("world", (), (), (), 0))), 2)

    def test_largest(self):
        """Four hundred deeds."""
        one = bench.Bench(TEXT, [2, 1])
        for at in range(400):
            one.signal(("button", 1) if at % 3 else ("tick",))
        lines = journals.journal(one)
        self.assertEqual(len(lines), 400)
        self.assertIsNone(journals.first_wrong(TEXT, [2, 1], lines))
        self.assertIsNot(journals.journal(one), journals.journal(one))


if __name__ == "__main__":
    unittest.main()
