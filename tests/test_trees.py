"""Trees and mirrors, against a plain second tree over infinity, and against households gone through one by one."""
import itertools
import math
import unittest

import helper
from helper import HOUSE, SMALL, seeded
from housekept import courses, crowds, errors, machines, mirrors, trees, webs

MANY = "many"
TWO = ("building", ("out", "a", "b"), (("d", "out", "a", "leaf"),), ("x", "y"), ())
ONE = ("building", ("out", "a", "b"), (("d", "out", "a", "leaf"),), ("x",), ())


def random_web(rand, building, size, most=4):
    spots = [(kind, area) for kind in building[3] for area in building[1]]
    rows = []
    for _ in range(size):
        moves = []
        for at in range(rand.randint(0, most)):
            need = rand.choice(spots + [None])
            there = None if need is None else (need[0], rand.choice(building[1]))
            move = (("m", rand.randint(0, 2)), need, there, rand.randrange(size))
            if move not in moves:
                moves.append(move)
        rows.append(tuple(moves))
    return ("web", tuple(sorted(rand.sample(range(size), rand.randint(1, min(2, size))))), tuple(rows))


def up(number):
    return math.inf if number == MANY else number


def within(one, other):
    return all(a <= b for row, beside in zip(one, other) for a, b in zip(row, beside))


def plain_tree(building, web, few, most):
    """The nodes as [46] tells them, with infinity for many; None if there are too many."""
    kinds, areas = building[3], building[1]
    nodes = [(begin, tuple((up(number),) + (0,) * (len(areas) - 1) for number in few), None, None) for begin in web[1]]
    if len(nodes) > most:
        return None
    for at in itertools.count():
        if at == len(nodes):
            return nodes
        place, crowd, _, _ = nodes[at]
        for move in web[2][place]:
            made = [list(row) for row in crowd]
            if move[1]:
                row = made[kinds.index(move[1][0])]
                if row[areas.index(move[1][1])] == 0:
                    continue
                row[areas.index(move[1][1])] -= 1
                row[areas.index(move[2][1])] += 1
            wide = [list(row) for row in made]
            here = at
            while here is not None:
                if nodes[here][0] == move[3] and within(nodes[here][1], made):
                    for i, row in enumerate(made):
                        for j, number in enumerate(row):
                            if number > nodes[here][1][i][j]:
                                wide[i][j] = math.inf
                here = nodes[here][2]
            if not any(node[0] == move[3] and within(wide, node[1]) for node in nodes):
                if len(nodes) == most:
                    return None
                nodes.append((move[3], tuple(map(tuple, wide)), at, move))


def told(nodes):
    return [(place, tuple(tuple(MANY if number == math.inf else number for number in row) for row in crowd), parent, move)
            for place, crowd, parent, move in nodes]


def moments(building, web, household):
    """All moments (place, crowd) that come of a household."""
    first = tuple((number,) + (0,) * (len(building[1]) - 1) for number in household)
    met = {(begin, first): None for begin in web[1]}
    order = list(met)
    for place, crowd in order:
        for move in web[2][place]:
            behind = courses.moved(building, crowd, move)
            if behind is not None and (move[3], behind) not in met:
                met[(move[3], behind)] = None
                order.append((move[3], behind))
    return order


def all_households(building, few, most):
    ranges = [range((most if number == MANY else number) + 1) for number in few]
    return itertools.product(*ranges)


def random_few(rand, building, most=2):
    return tuple(rand.choice([MANY] + list(range(most + 1))) for _ in building[3])


class Trees(unittest.TestCase):
    def test_nodes_against_a_plain_tree(self):
        rand = seeded(1)
        wide = 0
        for _ in range(300):
            building = rand.choice([ONE, TWO])
            web = random_web(rand, building, rand.randint(1, 5))
            few = random_few(rand, building, 1)
            plain = plain_tree(building, web, few, 300)
            if plain is None:
                with self.assertRaises(errors.TooMany) as caught:
                    trees.Tree(building, web, few, 300)
                self.assertEqual(caught.exception.most, 300)
                continue
            tree = trees.Tree(building, web, few, max(1, len(plain)))
            self.assertEqual(tree.nodes(), told(plain))
            wide += any(math.inf in row[1:] for _, crowd, _, _ in plain for row in crowd)
            if len(plain) > 1:
                with self.assertRaises(errors.TooMany) as caught:
                    trees.Tree(building, web, few, len(plain) - 1)
                self.assertEqual(caught.exception.most, len(plain) - 1)
        self.assertGreater(wide, 30)

    def test_heart_against_households_one_by_one(self):
        """What finite households come to is just what the tree reaches."""
        rand = seeded(2)
        for _ in range(60):
            building = rand.choice([ONE, TWO])
            web = random_web(rand, building, rand.randint(1, 4))
            few = tuple(rand.randint(0, 2) for _ in building[3])
            tree = trees.Tree(building, web, few, 5000)
            found = {moment for household in all_households(building, few, 0) for moment in moments(building, web, household)}
            self.check_reached(building, web, few, tree, found, 3)

    def check_reached(self, building, web, few, tree, found, most):
        rows = list(itertools.product(range(most), repeat=len(building[1])))
        for place in range(len(web[2])):
            for crowd in itertools.product(rows, repeat=len(building[3])):
                comes = any(one == place and within(crowd, other) for one, other in found)
                self.assertIs(tree.reaches(place, crowd), comes)
                self.check_course(building, web, few, tree, place, crowd)

    def check_course(self, building, web, few, tree, place, crowd):
        course = tree.course_to(place, crowd)
        if not tree.reaches(place, crowd):
            self.assertIsNone(course)
            return
        household, (begin, moves) = course
        self.assertTrue(all(number <= up(most) for number, most in zip(household, few)))
        self.assertIn(begin, web[1])
        last = courses.led(building, web, begin, crowds.crowd_at(building, household), moves)[-1]
        self.assertEqual(last[0], place)
        self.assertTrue(within(crowd, last[1]))

    def test_heart_with_many(self):
        """Households of up to five of a kind come to what is small, but for what needs more of them."""
        rand = seeded(3)
        for _ in range(40):
            web = random_web(rand, ONE, rand.randint(1, 4))
            tree = trees.Tree(ONE, web, (MANY,), 5000)
            found = set(moments(ONE, web, (5,)))
            rows = [row for row in itertools.product(range(3), repeat=3) if sum(row) <= 2]
            for place in range(len(web[2])):
                for row in rows:
                    if any(one == place and within((row,), other) for one, other in found):
                        self.assertIs(tree.reaches(place, (row,)), True)
                    self.check_course(ONE, web, (MANY,), tree, place, (row,))

    def test_courses_of_great_crowds(self):
        rand = seeded(4)
        long = 0
        for _ in range(120):
            building = rand.choice([ONE, TWO])
            web = random_web(rand, building, rand.randint(1, 5), 5)
            few = rand.choice([(MANY, MANY), (3, MANY), (20, 20)])[:len(building[3])]
            try:
                tree = trees.Tree(building, web, few, 600)
            except errors.TooMany:
                continue
            for place, crowd, _, _ in tree.nodes():
                left = 30
                rows = []
                for row in crowd:
                    cells = []
                    for number in row:
                        cells.append(rand.randint(0, min(left, 12 if number == MANY else number)))
                        left -= cells[-1]
                    rows.append(tuple(cells))
                self.check_course(building, web, few, tree, place, tuple(rows))
                long += sum(map(sum, rows)) > 25
        self.assertGreater(long, 20)

    def test_by_hand(self):
        # Whoever is in a brings the place from 0 to 1; there one goes back.
        go = (("in",), ("x", "out"), ("x", "a"), 0)
        step = (("t",), ("x", "a"), ("x", "a"), 1)
        back = (("back",), ("x", "a"), ("x", "out"), 1)
        web = ("web", (0,), ((go, step), (back,)))
        tree = trees.Tree(ONE, web, (2,), 10)
        self.assertEqual(tree.nodes(), [(0, ((2, 0, 0),), None, None), (0, ((1, 1, 0),), 0, go), (0, ((0, 2, 0),), 1, go),
                                        (1, ((1, 1, 0),), 1, step), (1, ((0, 2, 0),), 2, step), (1, ((2, 0, 0),), 3, back)])
        self.assertEqual((tree.building, tree.web, tree.few), (ONE, web, (2,)))
        tree = trees.Tree(ONE, web, (MANY,), 3)
        wide = ((MANY, MANY, 0),)
        self.assertEqual(tree.nodes(), [(0, ((MANY, 0, 0),), None, None), (0, wide, 0, go), (1, wide, 1, step)])
        self.assertEqual(tree.greatest((0, 1), "x", "a"), MANY)
        self.assertEqual(tree.greatest((), "x", "a"), None)
        self.assertEqual(tree.greatest((1,), "any", "b"), 0)
        none = trees.Tree(ONE, web, (0,), 1)
        self.assertEqual(none.nodes(), [(0, ((0, 0, 0),), None, None)])
        self.assertIsNone(none.greatest((1,), "x", "a"))
        self.assertIs(none.reaches(0, ((0, 0, 0),)), True)
        self.assertEqual(none.course_to(0, ((0, 0, 0),)), ((0,), (0, [])))

    def test_all_are_held_against_what_is_made(self):
        """A self-loop that changes nothing can still bring many: an ancestor is within what is wide by now."""
        rand = seeded(5)
        for _ in range(80):
            web = random_web(rand, TWO, 1, 6)
            plain = plain_tree(TWO, web, (MANY, MANY), 200)
            self.assertEqual(trees.Tree(TWO, web, (MANY, MANY), 200).nodes(), told(plain))

    def test_greatest(self):
        rand = seeded(6)
        for _ in range(60):
            web = random_web(rand, TWO, rand.randint(1, 4))
            few = random_few(rand, TWO)
            try:
                tree = trees.Tree(TWO, web, few, 400)
            except errors.TooMany:
                continue
            places = tuple(at for at in range(len(web[2])) if rand.random() < 0.6)
            for kind in ("x", "y", "any"):
                for area in TWO[1]:
                    found = [sum(up(row[TWO[1].index(area)]) for name, row in zip(TWO[3], crowd) if kind in (name, "any"))
                             for place, crowd, _, _ in tree.nodes() if place in places]
                    most = max(found, default=None)
                    self.assertEqual(tree.greatest(places, kind, area), MANY if most == math.inf else most)

    def test_bounds(self):
        web = ("web", (0,), (((("go",), ("x", "out"), ("x", "a"), 0),),))
        self.assertEqual(len(trees.Tree(ONE, web, (20,), 21).nodes()), 21)
        with self.assertRaises(errors.TooMany):
            trees.Tree(ONE, web, (20,), 20)
        self.assertEqual(len(trees.Tree(ONE, web, (0,), 5000).nodes()), 1)
        for few in ((21,), (-1,), (True,), ("Many",), ("any",), [0], (), (0, 0), 0, None):
            with self.assertRaises(errors.BadFew):
                trees.Tree(ONE, web, few, 9)
        for most in (0, 5001, True, None, "9"):
            with self.assertRaises(errors.BadMost):
                trees.Tree(ONE, web, (1,), most)
        many = trees.Tree(ONE, web, (MANY,), 9)
        household, (begin, moves) = many.course_to(0, ((0, 30, 0),))
        self.assertEqual((household, begin, len(moves)), ((30,), 0, 30))
        for crowd in (((0, 31, 0),), ((30, 1, 0),), ((0, 0, 31),), ((0, 10 ** 99, 0),)):
            with self.assertRaises(errors.BadCrowd):
                many.course_to(0, crowd)
        self.assertIs(many.reaches(0, ((10 ** 99, 10 ** 99, 0),)), True)
        self.assertIs(many.reaches(0, ((0, 0, 1),)), False)
        for places in ([0], (1,), (0, 0), (True,), (-1,), 0, None, ("0",)):
            with self.assertRaises(errors.BadPlaces):
                many.greatest(places, "x", "a")

    def test_largest(self):
        """Five thousand nodes; a row of five thousand places; a crowd of thirty behind long rounds."""
        kinds = ("x", "y", "z")
        tower = ("building", ("out", "a", "b", "c", "d", "e"), (("d", "out", "a", "leaf"),), kinds, ())
        moves = tuple((("m", kind, one, other), (kind, one), (kind, other), 0)
                      for kind in kinds for one in tower[1] for other in tower[1] if one != other)
        with self.assertRaises(errors.TooMany):
            trees.Tree(tower, ("web", (0,), (moves,)), (20, 20, 20), 5000)
        tree = trees.Tree(tower, ("web", (0,), (moves,)), (MANY, 2, 1), 5000)
        row = (0, 5, 6, 5, 6, 5)
        self.check_course(tower, tree.web, tree.few, tree, 0, (row, (0, 1, 1, 0, 0, 0), (0, 0, 0, 0, 1, 0)))
        step = lambda at: (("go",), ("x", "out"), ("x", "a"), at)
        ring = ("web", (0,), tuple((step((at + 1) % 2500),) for at in range(2500)))
        tree = trees.Tree(tower, ring, (MANY, 0, 0), 5000)
        self.assertEqual(len(tree.nodes()), 5000)
        row = ("web", (0,), tuple((step(at + 1),) for at in range(4999)) + ((),))
        tree = trees.Tree(tower, row, (MANY, 0, 0), 5000)
        self.assertEqual(len(tree.nodes()), 5000)
        self.assertEqual(tree.greatest((4999,), "any", "a"), 4999)
        with self.assertRaises(errors.TooMany):
            trees.Tree(tower, row, (MANY, 0, 0), 4999)

    def test_equal_to_nothing_else(self):
        web = ("web", (0,), ((),))
        one, other = trees.Tree(ONE, web, (1,), 3), trees.Tree(building=ONE, web=web, few=(1,), most=3)
        self.assertFalse(one == other or one == 3)
        self.assertEqual(one.nodes(), other.nodes())
        self.assertIsNot(one.nodes(), one.nodes())
        with self.assertRaises(TypeError):
            iter(one)


class Mirrors(unittest.TestCase):
    def test_counter_marks(self):
        machine = machines.Machine(helper.TEXT, helper.WORLD)
        self.assertEqual(mirrors.counter_marks(machine, "seen"),
                         tuple(machine.standing(at)[2][0] for at in range(len(machine))))
        for name in ("lamp", "mode", "any", "", None, ("seen",), ["seen"], 1):
            with self.assertRaises(errors.BadName):
                mirrors.counter_marks(machine, name)

    def test_short_and_over_against_all_moments(self):
        rand = seeded(7)
        for _ in range(60):
            building = rand.choice([ONE, TWO])
            web = random_web(rand, building, rand.randint(1, 4))
            marks = tuple(rand.randint(-2, 3) for _ in web[2])
            kind, area = rand.choice(building[3] + ("any",)), rand.choice(building[1])
            few = tuple(rand.randint(0, 2) for _ in building[3])
            gaps = {}
            for household in all_households(building, few, 0):
                met = moments(building, web, household)
                rows = [(crowds.count_there(building, crowd, kind, area), marks[place]) for place, crowd in met]
                gaps[household] = max(truth - mark for truth, mark in rows)
                over = max(mark - truth for truth, mark in rows)
                self.assertEqual(mirrors.over_by(building, web, household, marks, kind, area, len(met)), over)
                if len(met) > 1:
                    with self.assertRaises(errors.TooMany) as caught:
                        mirrors.over_by(building, web, household, marks, kind, area, len(met) - 1)
                    self.assertEqual(caught.exception.most, len(met) - 1)
            tree = trees.Tree(building, web, few, 5000)
            self.assertEqual(mirrors.short_by(tree, marks, kind, area), max(gaps.values()))

    def test_short_by_many(self):
        web = ("web", (0,), (((("go",), ("x", "out"), ("x", "a"), 0),),))
        tree = trees.Tree(ONE, web, (MANY,), 9)
        self.assertEqual(mirrors.short_by(tree, (10 ** 50,), "x", "a"), MANY)
        self.assertEqual(mirrors.short_by(tree, (7,), "any", "b"), -7)
        self.assertEqual(mirrors.short_by(trees.Tree(ONE, web, (3,), 9), (1,), "x", "a"), 2)

    def test_low(self):
        rand = seeded(8)
        seen = {None: 0, "more": 0}
        for _ in range(150):
            building = rand.choice([ONE, TWO])
            web = random_web(rand, building, rand.randint(1, 6))
            kind, area = rand.choice(building[3] + ("any",)), rand.choice(building[1])
            found = mirrors.low(building, web, kind, area)
            self.assertEqual(found, self.plain_low(web, kind, area))
            seen[None] += None in found
            seen["more"] += any(number for number in found if number)
            for household in itertools.product(range(3), repeat=len(building[3])):
                for place, crowd in moments(building, web, household):
                    self.assertIsNotNone(found[place])
                    if area != "out":
                        self.assertGreaterEqual(crowds.count_there(building, crowd, kind, area), found[place])
        self.assertGreater(min(seen.values()), 10)

    def plain_low(self, web, kind, area):
        """The greatest table, made less from above until nothing is wrong."""
        table = [math.inf] * len(web[2])
        for begin in web[1]:
            table[begin] = 0
        changed = True
        while changed:
            changed = False
            for place, moves in enumerate(web[2]):
                for _, need, there, behind in moves:
                    most = table[place]
                    if need and kind in ("any", need[0]):
                        here, comes = need[1] == area, there[1] == area
                        most = max(most, 1) if here and comes else most + comes - here
                        most = max(most, 0)
                    if most < table[behind]:
                        table[behind] = most
                        changed = True
        return tuple(None if number == math.inf else number for number in table)

    def test_low_by_hand(self):
        go = (("in",), ("x", "out"), ("x", "a"), 1)
        web = ("web", (0,), ((go,), ((("in",), ("x", "out"), ("x", "a"), 2), (("away",), ("x", "a"), ("x", "b"), 3)),
                             ((("here",), ("x", "a"), ("x", "a"), 3),), ((("here",), ("x", "a"), ("x", "a"), 4),), (), ()))
        self.assertEqual(mirrors.low(ONE, web, "x", "a"), (0, 1, 2, 0, 1, None))
        self.assertEqual(mirrors.low(ONE, web, "any", "b"), (0, 0, 0, 0, 0, None))

    def test_wrong_marks(self):
        web = ("web", (0,), ((), ()))
        tree = trees.Tree(ONE, web, (1,), 5)
        for marks in ((0,), (0, 0, 0), [0, 0], (0, None), (0, True), ("0", 0), None, {}):
            with self.assertRaises(errors.BadMarks):
                mirrors.short_by(tree, marks, "x", "a")
            with self.assertRaises(errors.BadMarks):
                mirrors.over_by(ONE, web, (1,), marks, "no", "no", 0)
        for value in (None, web, (), tree.nodes(), machines.Machine(helper.PLAIN, ("world", (), (), (), 0))):
            with self.assertRaises(errors.BadTree):
                mirrors.short_by(value, (), "x", "a")

    def test_counter_of_a_machine(self):
        """A text that counts passes: the mark is never above who is there, and one is lost by the cap."""
        text = ("text", SMALL, (), (), (("in", 2),),
                ((("card", "door", "any", "any"), ("always",), (("let", "door", "free"),)),
                 (("pass", "door", 0), ("always",), (("more", "in"),)), (("pass", "door", 1), ("always",), (("less", "in"),))))
        machine = machines.Machine(text, ("world", (), (), (), 0))
        web = webs.web_of(machine)
        marks = mirrors.counter_marks(machine, "in")
        tree = trees.Tree(SMALL, web, (4,), 5000)
        self.assertEqual(mirrors.short_by(tree, marks, "guest", "room"), 2)
        self.assertEqual(mirrors.over_by(SMALL, web, (2,), marks, "guest", "room", 20000), 0)
        self.assertEqual(mirrors.over_by(SMALL, web, (4,), marks, "any", "room", 20000), 0)
        self.assertEqual(mirrors.short_by(trees.Tree(SMALL, web, (MANY,), 5000), marks, "guest", "room"), MANY)
        self.assertEqual(mirrors.low(SMALL, web, "guest", "room")[0], 0)


if __name__ == "__main__":
    unittest.main()
