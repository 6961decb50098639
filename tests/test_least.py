"""[32]: least forms."""
import itertools
import unittest

from helper import BUTTONS, PLAIN, RINGS, TEXT, WORLD, four_thousand, random_text, random_world, seeded
from housekept import errors, least, machines, meaning

ALL = ("doors", "endless", "words")
LOOKS = [look for many in (1, 2, 3) for look in itertools.combinations(ALL, many)]


def look_of(answer, looks):
    return tuple(part for name, part in zip(("doors", "words", "endless"), answer) if name in looks)


def rows_of(machine, signals, looks):
    """For each standing and signal the pair of what is behind and what counts of the answer."""
    return [[(machine.after(at, signal)[0], look_of(machine.after(at, signal)[1], looks)) for signal in signals]
            for at in range(len(machine))]


def slow_classes(rows):
    """The classes of alike standings, numbered as they are met, by parting all lots again and again."""
    lots = [0] * len(rows)
    while True:
        keys = [(lots[at], tuple((lots[behind], look) for behind, look in row)) for at, row in enumerate(rows)]
        fresh = [keys.index(key) for key in keys]
        if len(set(fresh)) == len(set(lots)):
            break
        lots = fresh
    names, order = {lots[0]: 0}, [0]
    for at in order:
        for behind, _ in rows[at]:
            if lots[behind] not in names:
                names[lots[behind]] = len(names)
                order.append(behind)
    return [names[lot] for lot in lots], order


def slow_alike(one, other, signals, looks):
    """The least row that parts two machines, by walking along all pairs."""
    met, queue = {(0, 0)}, [((0, 0), [])]
    first, second = rows_of(one, signals, looks), rows_of(other, signals, looks)
    for (here, there), row in queue:
        for at, signal in enumerate(signals):
            if first[here][at][1] != second[there][at][1]:
                return row + [signal]
            pair = (first[here][at][0], second[there][at][0])
            if pair not in met:
                met.add(pair)
                queue.append((pair, row + [signal]))
    return None


class Least(unittest.TestCase):
    def test_by_hand(self):
        machine = machines.Machine(PLAIN, ("world", (), (), (), 0))
        shut, free = (("shut",),), (("free",),)
        self.assertEqual(least.least(machine, ("doors",)),
                         (((1, free), (0, shut), (0, shut), (0, shut), (0, shut)),
                          ((1, free), (1, free), (0, shut), (0, shut), (0, shut))))
        self.assertEqual(least.classes(machine, ("doors",)), [0, 1])
        self.assertEqual(least.classes(machine, ("words",)), [0, 0])
        self.assertEqual(least.least(machine, ("endless", "words")), (((0, ((), False)),) * 5,))

    def test_look_is_in_the_order_doors_words_endless(self):
        machine = machines.Machine(RINGS, ("world", (), (2,), (), 0))
        rows = least.least(machine, ALL)
        self.assertEqual(rows[0][-2], (1, (("shut", "free"), (4,), False)))

    def test_alike_by_hand(self):
        world = ("world", (), (), (), 0)
        one = machines.Machine(PLAIN, world)
        late = PLAIN[:5] + (PLAIN[5][:1] + PLAIN[5][2:],)
        other = machines.Machine(late, world)
        self.assertIsNone(least.alike(one, one, ("doors",)))
        self.assertEqual(least.alike(one, other, ("doors",)), [("card", "door", 0, "guest"), ("pass", "door", 0)])
        self.assertIsNone(least.alike(one, other, ("words",)))

    def test_endless_signals_count_only_if_they_are_looked_at(self):
        world = ("world", (), (3,), (), 0)
        one = machines.Machine(RINGS, world)
        other = machines.Machine(RINGS[:5] + (RINGS[5][:2] + (RINGS[5][2][:2] + ((("let", "flag", "on"),),),) + RINGS[5][3:4],), world)
        self.assertEqual(least.alike(one, other, ("endless",)), [("button", 3)])
        self.assertIsNone(least.alike(one, other, ("doors", "words")))
        self.assertEqual(least.least(one, ("words",)), least.least(other, ("words",)))
        self.assertNotEqual(least.least(one, ("endless",)), least.least(other, ("endless",)))

    def test_unlike_signals(self):
        one, other = machines.Machine(PLAIN, ("world", (), (), (), 0)), machines.Machine(PLAIN, ("world", (), (1,), (), 0))
        with self.assertRaises(errors.UnlikeSignals):
            least.alike(one, other, ("doors",))
        with self.assertRaises(errors.BadLooks):
            least.alike(one, other, ("doors", "doors"))
        faulty = [machines.Machine(PLAIN, ("world", (), (), ("door",), faults)) for faults in (0, 1)]
        self.assertEqual(least.alike(faulty[0], faulty[1], ("doors",)),
                         [("stuck", "door"), ("card", "door", 0, "guest")])

    def test_wrong_looks(self):
        machine = machines.Machine(PLAIN, ("world", (), (), (), 0))
        for looks in ((), ("words", "doors"), ("doors", "doors"), ["doors"], ("rounds",), "doors", ("endless", "doors")):
            for call in (least.least, least.classes):
                with self.assertRaises(errors.BadLooks):
                    call(machine, looks)

    def test_classes_and_least_forms_against_a_plain_second_way(self):
        for seed in range(60):
            rand = seeded(seed)
            text = random_text(rand, many=10)
            machine = machines.Machine(text, random_world(rand, text))
            if len(machine) > 150:
                continue
            signals = machines.signals_in(text, machine.world)
            for looks in rand.sample(LOOKS, 2):
                rows = rows_of(machine, signals, looks)
                names, order = slow_classes(rows)
                self.assertEqual(least.classes(machine, looks), names)
                form = tuple(tuple((names[behind], look) for behind, look in rows[at]) for at in order)
                self.assertEqual(least.least(machine, looks), form)

    def test_alike_against_a_plain_second_way(self):
        parted = kept = 0
        for seed in range(120):
            rand = seeded(seed)
            text = random_text(rand, many=10)
            world = random_world(rand, text)
            order = list(range(len(text[5])))
            rand.shuffle(order)
            others = [meaning.reordered(text, tuple(order)), text[:5] + (text[5][1:],)]
            one = machines.Machine(text, world)
            for second in others:
                other = machines.Machine(second, world)
                if len(one) * len(other) > 20000:
                    continue
                looks = rand.choice(LOOKS)
                row = least.alike(one, other, looks)
                self.assertEqual(row, slow_alike(one, other, machines.signals_in(text, world), looks))
                self.assertEqual(row is None, least.least(one, looks) == least.least(other, looks))
                parted += row is not None
                kept += row is None
        self.assertGreater(parted, 10)
        self.assertGreater(kept, 30)

    def test_standings_of_one_class_are_alike(self):
        machine = machines.Machine(TEXT, WORLD)
        names = least.classes(machine, ("doors", "words"))
        for at in range(0, len(machine), 7):
            moved = machines.Machine(TEXT, WORLD, start=machine.standing(at))
            same = least.alike(machine, moved, ("doors", "words")) is None
            self.assertEqual(same, names[at] == names[0])

    def test_refining_any_lots(self):
        """The refining by itself, over random next standings: the same lots as by parting all again and again."""
        for seed in range(400):
            rand = seeded(seed)
            many, signals = rand.randint(1, 30), rand.randint(1, 3)
            near = rand.choice([1, 3, many])
            nexts = [[min(many - 1, max(0, at + rand.randint(-near, near))) for _ in range(signals)] for at in range(many)]
            firsts = [0] + [rand.choice([0, 0, 0, 0, 1]) for _ in range(many - 1)]
            refined = least.Classes(nexts, list(firsts))
            refined.refine()
            lots = firsts
            while True:
                keys = [(lots[at], tuple(lots[behind] for behind in row)) for at, row in enumerate(nexts)]
                fresh = [keys.index(key) for key in keys]
                if len(set(fresh)) == len(set(lots)):
                    break
                lots = fresh
            self.assertEqual([refined.lots.index(lot) for lot in refined.lots], [lots.index(lot) for lot in lots])

    def test_greatest_machine(self):
        machine = machines.Machine(four_thousand(False), BUTTONS)
        self.assertEqual(len(least.least(machine, ("doors", "words"))), 1)
        saying = four_thousand(False)
        saying = saying[:5] + (saying[5] + ((("tick",), ("not", ("running", "r")), (("say", 1),)),
                                            (("button", 0), ("is", "v", "b"), (("say", 2),))),)
        one = machines.Machine(saying, BUTTONS)
        # What counts is v, and whether r runs for 2, 3 or 4 ticks more.
        self.assertEqual(len(least.least(one, ("words",))), 8)
        self.assertEqual(least.alike(machine, one, ("words",)), [("tick",)])


if __name__ == "__main__":
    unittest.main()
