"""[24], [27]: what signals mean, and texts in another order or with other names."""
import unittest

from helper import (BEGIN, HOUSE, PLAIN, Plain, RINGS, TEXT, counted, counting, put, random_standing, random_text, seeded)
from housekept import errors, meaning, rules

CARD = ("card", "front", 0, "guest")


class Meaning(unittest.TestCase):
    def test_account_by_hand(self):
        behind = (("free", "shut", "no", "no", "day"), (3,), (1,), (None, None))
        self.assertEqual(meaning.meaning(TEXT, BEGIN, CARD),
                         (behind, [([CARD], (0,)), ([("becomes", "front", "free")], (2,))], (1,), [], False))
        ran = put(behind, (1, 0), 1)
        self.assertEqual(meaning.meaning(TEXT, ran, ("tick",)),
                         (put(put(ran, (1, 0), None), (0, 0), "shut"),
                          [([("tick",), ("ran", "lamp")], (3,)), ([("becomes", "front", "shut")], ())], (2,), [], False))

    def test_card_without_the_right_has_one_round(self):
        card = ("card", "inner", 1, "guest")
        self.assertEqual(meaning.meaning(TEXT, BEGIN, card), (BEGIN, [([card], ())], (), [], False))

    def test_void_signals(self):
        for signal in (("pass", "front", 0), ("mended", "inner")):
            self.assertEqual(meaning.meaning(TEXT, BEGIN, signal), (BEGIN, [], (), [], False))
            self.assertIs(meaning.is_void(TEXT, BEGIN, signal), True)
        stuck = put(BEGIN, (3, 0), "free")
        self.assertIs(meaning.is_void(TEXT, stuck, ("stuck", "front")), True)
        for standing, signal in ((BEGIN, ("stuck", "front")), (stuck, ("mended", "front")), (stuck, ("pass", "front", 1)),
                                 (BEGIN, CARD), (BEGIN, ("smoke", "lab", "no")), (BEGIN, ("tick",))):
            self.assertIs(meaning.is_void(TEXT, standing, signal), False)

    def test_door_that_stands_free_though_its_variable_is_shut(self):
        stuck = put(BEGIN, (3, 1), "free")
        account = meaning.meaning(TEXT, stuck, ("pass", "inner", 0))
        self.assertEqual(account, (stuck, [([("pass", "inner", 0)], (4,))], (), [], False))

    def test_clashes(self):
        begin = rules.begin(RINGS)
        free = put(put(begin, (0, 1), "free"), (2, 0), 1)
        inner = ("variable", "inner")
        self.assertEqual(meaning.meaning(RINGS, begin, ("button", 2)),
                         (free, [([("button", 2)], (0, 1)), ([("becomes", "inner", "free")], ())], (4,),
                          [(1, 0, 1, inner)], False))

    def test_endless(self):
        begin = rules.begin(RINGS)
        on, off = ("becomes", "flag", "on"), ("becomes", "flag", "off")
        self.assertEqual(meaning.meaning(RINGS, begin, ("button", 3)),
                         (begin, [([("button", 3)], (2,)), ([on], (3,)), ([off], (4,))], (), [], True))

    def test_endless_leaves_what_the_signal_is_by_itself(self):
        text = RINGS[:5] + (((("pass", "any", "any"), ("always",), (("let", "flag", "on"), ("say", 1))),) + RINGS[5][3:],)
        free = put(rules.begin(text), (0, 0), "free")
        account = meaning.meaning(text, free, ("pass", "front", 0))
        self.assertEqual(account[0], put(free, (0, 0), "shut"))
        self.assertEqual((account[2], account[4], len(account[1])), ((), True, 3))

    def test_rounds_up_to_the_last_that_is_let(self):
        text = counting("c", 1000)
        account = meaning.meaning(text, counted(0), ("button", 0))
        self.assertEqual((len(account[1]), account[0], account[4]), (1000, counted(1000), False))
        with self.assertRaises(errors.TooLong) as caught:
            meaning.meaning(counting("b", 1000), counted(0), ("button", 0))
        self.assertEqual(caught.exception.most, 1000)

    def test_endless_at_the_last_round_that_is_let(self):
        account = meaning.meaning(counting("a", 998, "b"), counted(3), ("button", 0))
        self.assertEqual((len(account[1]), account[0], account[2], account[4]), (1000, counted(3), (), True))
        with self.assertRaises(errors.TooLong):
            meaning.meaning(counting("d", 1002, "b"), counted(0), ("button", 0))

    def test_too_long_comes_behind_the_other_errors(self):
        text = counting("b", 1000)
        with self.assertRaises(errors.BadRow):
            meaning.run(text, counted(0), [("button", 0), None])
        with self.assertRaises(errors.TooLong):
            meaning.behind(text, [("tick",), ("button", 0)])

    def test_run_and_behind(self):
        row = [CARD, ("tick",), ("pass", "front", 0), ("tick",), ("tick",)]
        accounts = meaning.run(TEXT, BEGIN, row)
        standing = BEGIN
        for signal, account in zip(row, accounts):
            self.assertEqual(account, meaning.meaning(TEXT, standing, signal))
            standing = account[0]
        self.assertEqual(standing, put(BEGIN, (2, 0), 1))
        self.assertEqual(meaning.behind(TEXT, row), standing)
        self.assertEqual(meaning.run(TEXT, BEGIN, []), [])
        self.assertEqual(meaning.behind(TEXT, ()), BEGIN)
        self.assertEqual(len(meaning.run(TEXT, BEGIN, [("tick",)] * 1000)), 1000)

    def test_against_a_plain_second_way(self):
        endless = clashing = 0
        for seed in range(400):
            rand = seeded(seed)
            text = random_text(rand)
            plain = Plain(text)
            signals = rules.signals(text)
            for _ in range(15):
                standing, signal = random_standing(rand, text), rand.choice(signals)
                account = meaning.meaning(text, standing, signal)
                self.assertEqual(account, plain.account(standing, signal))
                self.assertEqual(meaning.is_void(text, standing, signal), plain.void(plain.opened(standing), signal))
                endless += account[4]
                clashing += bool(account[3])
        self.assertGreater(endless, 1)
        self.assertGreater(clashing, 10)


class Others(unittest.TestCase):
    def test_reordered(self):
        one, two, three = PLAIN[5]
        self.assertEqual(meaning.reordered(PLAIN, (2, 0, 1)), PLAIN[:5] + ((three, one, two),))
        for order in ((0, 1), (0, 1, 1), (0, 1, 2, 3), (0, 1, 3), [0, 1, 2], (False, True, 2), (-1, 0, 1), ("0", 1, 2), None):
            with self.assertRaises(errors.BadOrder):
                meaning.reordered(PLAIN, order)

    def test_reordered_accounts_without_clash_are_the_same(self):
        alike = unlike = 0
        for seed in range(150):
            rand = seeded(seed)
            text = random_text(rand)
            order = list(range(len(text[5])))
            rand.shuffle(order)
            other = meaning.reordered(text, tuple(order))
            for _ in range(10):
                standing, signal = random_standing(rand, text), rand.choice(rules.signals(text))
                one, two = meaning.meaning(text, standing, signal), meaning.meaning(other, standing, signal)
                old = [(told, tuple(sorted(order[rule] for rule in fired))) for told, fired in two[1]]
                if not one[3]:
                    self.assertEqual((one[0], one[1], one[2], one[4]), (two[0], old, two[2], two[4]))
                    alike += 1
                else:
                    self.assertTrue(two[3])
                    unlike += 1
        self.assertGreater(alike, 100)
        self.assertGreater(unlike, 5)

    def test_renamed(self):
        text = ("text", HOUSE, (("hall", ("guest", "lab")), ("guest", ("on", "off"))), (("lab", 3),), (("staff", 2),),
                ((("card", "front", 0, "guest"), ("both", ("is", "hall", "guest"), ("not", ("running", "lab"))),
                  (("let", "hall", "lab"), ("start", "lab", 2), ("more", "staff"), ("say", 1))),
                 (("smoke", "lab", "yes"), ("either", ("least", "staff", 1), ("is", "guest", "on")), (("stop", "lab"),)),
                 (("becomes", "hall", "lab"), ("right",), (("less", "staff"), ("let", "front", "free"))),
                 (("ran", "lab"), ("is", "smoke:hall", "yes"), ())))
        names = {"hall": "guest", "guest": "hall", "lab": "t", "staff": "lab"}
        self.assertEqual(meaning.renamed(text, names), (
            "text", HOUSE, (("guest", ("guest", "lab")), ("hall", ("on", "off"))), (("t", 3),), (("lab", 2),),
            ((("card", "front", 0, "guest"), ("both", ("is", "guest", "guest"), ("not", ("running", "t"))),
              (("let", "guest", "lab"), ("start", "t", 2), ("more", "lab"), ("say", 1))),
             (("smoke", "lab", "yes"), ("either", ("least", "lab", 1), ("is", "hall", "on")), (("stop", "t"),)),
             (("becomes", "guest", "lab"), ("right",), (("less", "lab"), ("let", "front", "free"))),
             (("ran", "t"), ("is", "smoke:hall", "yes"), ()))))
        self.assertEqual(meaning.renamed(text, {}), text)

    def test_wrong_names(self):
        for names in ({"front": "door"}, {"mode": "lamp"}, {"mode": "front"}, {"mode": "any"}, {"mode": "Mode"}, {"no": "name"},
                      {"smoke:hall": "fire"}, {"mode": None}, {"mode": ("a",)}, {1: "a"}, [("mode", "phase")], None,
                      {"mode": "same", "lamp": "same"}, {("mode",): "a"}):
            with self.assertRaises(errors.BadNames):
                meaning.renamed(TEXT, names)
        self.assertEqual(rules.fault(meaning.renamed(TEXT, {"mode": "lamp", "lamp": "mode"})), None)

    def test_renamed_accounts_are_the_same_with_new_names(self):
        for seed in range(60):
            rand = seeded(seed)
            text = random_text(rand)
            own = [row[0] for part in (2, 3, 4) for row in text[part]]
            names = {name: "n" + name for name in own if rand.random() < 0.7}
            other = meaning.renamed(text, names)

            def new(thing):
                return thing[:1] + (names.get(thing[1], thing[1]),) + thing[2:] if thing[0] in ("becomes", "ran") else thing

            for _ in range(5):
                standing, signal = random_standing(rand, text), rand.choice(rules.signals(text))
                one, two = meaning.meaning(text, standing, signal), meaning.meaning(other, standing, signal)
                told = [([new(thing) for thing in things], fired) for things, fired in one[1]]
                clashes = [(at, done, left, (kind, names.get(name, name))) for at, done, left, (kind, name) in one[3]]
                self.assertEqual(two, (one[0], told, one[2], clashes, one[4]))


if __name__ == "__main__":
    unittest.main()
