"""Texts as strings, and strings as texts: right words and ends, the first wrong one, and whole strings from pieces."""
import unittest

import helper
from helper import BEGIN, HOUSE, PLAIN, SMALL, TEXT, random_building, random_text, seeded
from housekept import errors, readtexts, rules, texts

STRING = """area out
area room
door door out room leaf
kind guest
right guest door 0
when card door any any
if right
then let door free
when pass door any
if always
then let door shut
when tick
if always
then let door shut"""

ALL = ("text", HOUSE, (("mode", ("day", "night", "late")), ("hall", ("out", "any" + "x"))), (("lamp", 12),), (("seen", 5), ("k", 1)), (
    (("card", "any", "any", "any"), ("right",), (("let", "front", "free"), ("say", 0), ("say", 9), ("more", "k"))),
    (("card", "front", 0, "staff"), ("always",), ()), (("card", "inner", 1, "any"), ("always",), ()),
    (("pass", "inner", "any"), ("not", ("right",)), (("let", "mode", "late"),)), (("pass", "any", 1), ("always",), ()),
    (("smoke", "any", "any"), ("is", "smoke:lab", "yes"), (("stop", "lamp"),)), (("smoke", "lab", "no"), ("always",), ()),
    (("button", 5), ("both", ("least", "seen", 5), ("either", ("running", "lamp"), ("not", ("is", "hall", "out")))), (("less", "seen"),)),
    (("stuck", "any"), ("always",), ()), (("mended", "inner"), ("is", "inner", "free"), (("start", "lamp", 12),)),
    (("becomes", "smoke:hall", "any"), ("always",), ()), (("becomes", "mode", "day"), ("always",), ()), (("ran", "lamp"), ("always",), ()),
    (("tick",), ("not", ("not", ("not", ("not", ("not", ("always",)))))), ())))


def full(deep):
    return ("is", "smoke:lab", "yes") if deep == 1 else ("either", full(deep - 1), full(deep - 1))


def random_whole(rand):
    building = random_building(rand, rand.randint(2, 6), rand.randint(1, 6), rand.randint(1, 3))
    return random_text(rand, building, rand.randint(2, 30), rand.randint(1, 6))


class Strings(unittest.TestCase):
    def wrong(self, string, line, word):
        with self.assertRaises(errors.BadWord) as caught:
            readtexts.text_from(string)
        self.assertEqual((caught.exception.line, caught.exception.word), (line, word), string[-200:])

    def test_by_hand(self):
        self.assertEqual(texts.text_of(PLAIN), STRING)
        self.assertEqual(readtexts.text_from(STRING), PLAIN)
        lines = texts.text_of(ALL).split("\n")
        for line in ["variable hall out anyx", "timer lamp 12", "counter k 1", "when card any any any", "if right", "then say 9",
                     "if both least seen 5 either running lamp not is hall out", "when becomes smoke:hall any", "when ran lamp",
                     "if not not not not not always", "then start lamp 12", "right staff inner 1", "when button 5"]:
            self.assertIn(line, lines)
        self.assertEqual(readtexts.text_from(texts.text_of(ALL)), ALL)

    def test_there_and_back(self):
        rand = seeded(1)
        for _ in range(300):
            text = random_whole(rand)
            string = texts.text_of(text)
            self.assertEqual(readtexts.text_from(string), text)
            self.assertEqual(readtexts.ended(string), string)
            for line in string.split("\n"):
                self.assertTrue(line and "" not in line.split(" "))

    def test_the_longest(self):
        rule = (("tick",), full(6), tuple(("say", word) for word in range(4)))
        text = TEXT[:5] + ((rule,) * 30,)
        string = texts.text_of(text)
        self.assertGreater(len(string), 20000)
        self.assertEqual(readtexts.text_from(string), text)
        self.wrong(string[:-1], len(string.split("\n")), 3)
        self.wrong(string + "\nwhen", len(string.split("\n")) + 1, 1)
        self.wrong(string + "\nthen say 9", len(string.split("\n")) + 1, 1)
        short = texts.text_of(TEXT[:5] + ((rule,) * 14,))
        self.assertLess(len(short), 20000)
        self.assertEqual(readtexts.ended(short[:-20])[:len(short) - 40], short[:len(short) - 40])

    def test_wrong_places(self):
        for string, line, word in [("", 1, 1), (" ", 1, 1), ("\n", 1, 1), ("area", 1, 2), ("area ", 1, 2), ("area  out", 1, 2),
                                   ("area out", 1, 4), ("area out ", 1, 3), ("area out\n", 2, 1), ("area out room", 1, 3),
                                   ("area any", 1, 2), ("area toolongname", 1, 2), ("area Out", 1, 2), ("area out\narea out", 2, 2),
                                   (" area out", 1, 1), ("area\tout", 1, 1), ("area out\r\narea room", 1, 2), ("AREA out", 1, 1),
                                   ("door a b c leaf", 1, 1), ("area out\ndoor a", 2, 1), ("kind guest", 1, 1), ("when tick", 1, 1)]:
            self.wrong(string, line, word)
        head = STRING.split("\n")
        cases = [(2, "kind guest", 3, 1), (2, "door door out", 3, 4), (2, "door door out out leaf", 3, 4), (2, "door door out hall leaf", 3, 4),
                 (2, "door door out room leafs", 3, 5), (2, "door any out room leaf", 3, 2), (2, "door door out room leaf x", 3, 6),
                 (3, "area hall", 4, 1), (3, "door door room out gate", 4, 2), (3, "kind", 4, 2), (3, "right guest door 0", 4, 1),
                 (4, "kind guest", 5, 2), (4, "right guests door 0", 5, 2), (4, "right guest doors 0", 5, 3), (4, "right guest door 2", 5, 4),
                 (4, "right guest door any", 5, 4), (4, "right guest door 00", 5, 4), (4, "door d out room leaf", 5, 1),
                 (5, "right guest door 0", 6, 4), (5, "kind staff", 6, 1), (5, "variable door a b", 6, 2), (5, "variable v a", 6, 4),
                 (5, "variable v a a", 6, 4), (5, "variable v a b c d e", 6, 7), (5, "variable v any b", 6, 3), (5, "timer t 0", 6, 3),
                 (5, "timer t 13", 6, 3), (5, "timer t 01", 6, 3), (5, "timer t +1", 6, 3), (5, "timer t", 6, 3), (5, "timer door 1", 6, 2),
                 (5, "counter c 6", 6, 3), (5, "counter c 1 1", 6, 4), (5, "if always", 6, 1), (5, "then say 1", 6, 1), (5, "when", 6, 2),
                 (5, "when ran t", 6, 2), (5, "when card", 6, 3), (5, "when card door 2", 6, 4), (5, "when card any any staff", 6, 5),
                 (5, "when card any any any any", 6, 6), (5, "when tick tick", 6, 3), (5, "when smoke out yes", 6, 3),
                 (5, "when smoke room maybe", 6, 4), (5, "when button 6", 6, 3), (5, "when button any", 6, 3), (5, "when becomes any yes", 6, 3),
                 (5, "when becomes door open", 6, 4), (5, "when becomes smoke:out yes", 6, 3), (5, "when stuck", 6, 3), (5, "when always", 6, 2)]
        for many, line, at, word in cases:
            self.wrong("\n".join(head[:many] + [line]), at, word)
        for line, word in [("if", 2), ("if not", 3), ("if both always", 4), ("if always always", 3), ("if is", 3), ("if is door", 4),
                           ("if is door open", 4), ("if is lamp on", 3), ("if least", 2), ("if running", 2), ("if stands door free", 2),
                           ("if not not not not not not", 7), ("if not not not not not both", 7), ("if not not not not not right", None),
                           ("if either not always both", 6), ("then say 1", 1), ("when tick", 1), ("", 1)]:
            string = "\n".join(head[:5] + ["when tick", line])
            if word is None:
                self.assertEqual(readtexts.text_from(string)[5][0][1][0], "not")
            else:
                self.wrong(string, 7, word)
        for lines, at, word in [(["then"], 8, 2), (["then let"], 8, 3), (["then let door"], 8, 4), (["then let smoke:room yes"], 8, 3),
                                (["then let door free", "then let"], 9, 2), (["then let door free", "then say 1", "then say 1"], 10, 3),
                                (["then start t 1"], 8, 2), (["then stop"], 8, 2), (["then more"], 8, 2), (["then say 10"], 8, 3),
                                (["then say 01"], 8, 3), (["then say 1 1"], 8, 4), (["then say 1", "then say 2", "then say 3", "then say 4", "then"], 12, 1),
                                (["if always"], 8, 1), (["then say 1", "timer t 1"], 9, 1)]:
            self.wrong("\n".join(head[:5] + ["when tick", "if always"] + lines), at, word)

    def test_deeds_that_are_used_up(self):
        """With one timer, one counter and one variable more each word can come but once."""
        head = STRING.split("\n")[:5] + ["variable v a b", "timer t 3", "counter c 2", "when ran t", "if least c 2"]
        self.assertEqual(readtexts.text_from("\n".join(head + ["then start t 3", "then less c", "then let v b", "then let door free"]))[5][0][2],
                         (("start", "t", 3), ("less", "c"), ("let", "v", "b"), ("let", "door", "free")))
        self.wrong("\n".join(head + ["then start t 3", "then stop t"]), 12, 2)
        self.wrong("\n".join(head + ["then more c", "then less c"]), 12, 2)
        self.wrong("\n".join(head + ["then let v a", "then let v b"]), 12, 3)
        self.wrong("\n".join(head + ["then let v a", "then let door free", "then let v b"]), 13, 2)
        self.wrong("\n".join(head + ["then start t 4"]), 11, 4)
        self.wrong("\n".join(head[:-1] + ["if least c 3"]), 10, 4)
        self.wrong("\n".join(head[:5] + ["variable v a b", "timer v 3"]), 7, 2)

    def test_rights_in_order(self):
        """A right can come only as long as a greater one is left."""
        head = ["area out", "area room", "door a out room leaf", "door b out room gate", "kind x", "kind y"]
        readtexts.text_from("\n".join(head + ["right x a 0", "right x a 1", "right y a 1", "right y b 1", "when tick", "if always"]))
        for lines, word in [(["right x b 1", "right x"], 2), (["right x b 0", "right x a"], 3), (["right x b 0", "right x b 0"], 4),
                            (["right x a 1", "right x a"], 3), (["right y a 0", "right x"], 2), (["right y b 1", "right"], 1)]:
            self.wrong("\n".join(head + lines), len(head) + len(lines), word)

    def test_most_of_each(self):
        areas = ["area " + name for name in "abcdef"]
        doors = ["door " + name + " a b leaf" for name in "abcdef"]
        kinds = ["kind " + name for name in "abc"]
        variables = ["variable v" + name + " a b" for name in "abcde"]
        timers, counters = ["timer t" + name + " 1" for name in "abc"], ["counter c" + name + " 1" for name in "ab"]
        parts = [areas, doors, kinds, variables, timers, counters]
        string = "\n".join([line for part in parts for line in part] + ["when tick", "if always"])
        self.assertEqual(len(readtexts.text_from(string)[2]), 5)
        lines = []
        for part in parts:
            lines += part
            self.wrong("\n".join(lines + [part[0].replace(" a", " z", 1)]), len(lines) + 1, 1)

    def test_no_strings(self):
        for value in helper.any_values():
            if type(value) is not str:
                for call in (readtexts.text_from, readtexts.ended):
                    with self.assertRaises(errors.BadWord) as caught:
                        call(value)
                    self.assertEqual((caught.exception.line, caught.exception.word), (1, 1))
            with self.assertRaises(errors.BadText):
                texts.text_of(value)

    def test_one_word_otherwise(self):
        """The first wrong word: what stands ahead can be gone on with, and no text's string begins with it, too."""
        rand = seeded(2)
        words = ["any", "0", "1", "2", "", "x", "always", "both", "tick", "front", "let", "area", "out", "then", "if", "free", "yes", "12", "a b", "a\nb"]
        moved = 0
        for _ in range(250):
            text = random_whole(rand)
            string = texts.text_of(text)
            lines = [line.split(" ") for line in string.split("\n")]
            line = rand.randrange(len(lines))
            word = rand.randrange(len(lines[line]))
            lines[line][word] = rand.choice(words + [lines[rand.randrange(len(lines))][-1]])
            other = "\n".join(" ".join(row) for row in lines)
            try:
                made = readtexts.text_from(other)
                self.assertTrue(rules.is_text(made))
                self.assertEqual(texts.text_of(made), other)
                continue
            except errors.BadWord as error:
                place = (error.line, error.word)
            moved += place != (line + 1, word + 1)
            self.assertGreaterEqual(place, (line + 1, word + 1))
            self.check_place(other, place)
        self.assertGreater(moved, 20)

    def check_place(self, string, place):
        """A string is right up to a place: what ended tells begins so, and goes on with another word or end there."""
        lines = [line.split(" ") for line in string.split("\n")]
        made = [line.split(" ") for line in readtexts.ended(string).split("\n")]
        line, word = place
        self.assertEqual(made[:line - 1], lines[:line - 1])
        here, there = lines[line - 1], made[line - 1] if line <= len(made) else None
        if word == len(here) + 2:
            # The string's end was wrong.
            self.assertEqual((line, there, len(made) > line), (len(lines), here, True))
        elif there is None:
            self.assertEqual(word, 1)
        else:
            self.assertEqual(there[:word - 1], here[:word - 1])
            if word > len(here):
                self.assertGreater(len(there), len(here))
            elif len(there) >= word:
                self.assertNotEqual(there[word - 1], here[word - 1])
        self.assertTrue(rules.is_text(readtexts.text_from("\n".join(" ".join(row) for row in made))))

    def test_ended_pieces(self):
        rand = seeded(3)
        for _ in range(120):
            string = texts.text_of(random_whole(rand))
            cut = rand.randrange(len(string))
            made = readtexts.ended(string[:cut])
            self.assertEqual(texts.text_of(readtexts.text_from(made)), made)
            # All words but the last one, of which a part alone may be left.
            ahead = max(string[:cut].rfind(" "), string[:cut].rfind("\n"), 0)
            self.assertTrue(made.startswith(string[:ahead]))
        self.assertEqual(readtexts.text_from(readtexts.ended("")), readtexts.text_from(readtexts.ended("nothing right")))
        self.assertEqual(readtexts.ended("area a\narea b\ndoor a b").split("\n")[2].split(" ")[:3], ["door", "a", "b"])

    def test_text_of(self):
        for value in [None, TEXT[:5], TEXT[:5] + ([],), list(TEXT), BEGIN, "area"]:
            with self.assertRaises(errors.BadText) as caught:
                texts.text_of(value)
            self.assertEqual(caught.exception.place, rules.fault(value))
        self.assertEqual(readtexts.text_from(string=STRING), texts.text_of and PLAIN)
        self.assertEqual(PLAIN[1], SMALL)


if __name__ == "__main__":
    unittest.main()
