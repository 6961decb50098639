"""Comfort, against the game tried row by row over dicts."""
import itertools
import unittest

from helper import seeded
from housekept import air, comfort, errors


def random_air(rand, span=3):
    names = ("hall", "lab")[:rand.randint(1, 2)]
    rooms = []
    for name in names:
        low = rand.randint(-3, 3)
        high = low + rand.randint(0, span)
        rooms.append((name, low, high, rand.randint(low, high)))
    whole = rand.randint(2, 5)
    leaks, left = [], dict.fromkeys(names, whole)
    for area in names:
        for other in ["out", "out"] + [name for name in names if name != area]:
            door = rand.choice([None, "door", "gap"])
            share = rand.randint(1, 2)
            if share <= left[area] and (area, other, door) not in [(row[0], row[1], row[3]) for row in leaks]:
                leaks.append((area, other, share, door))
                left[area] -= share
    heaters = tuple((name, rand.choice(names), rand.choice([-6, -3, 2, 4, 8])) for name in ("oven", "stove"))
    least = rand.randint(-6, 2)
    most = least + rand.randint(0, 3)
    return ("air", tuple(rooms), whole, tuple(leaks), heaters, (least, most, rand.randint(least, most), rand.randint(0, 3)))


def random_game(rand, span=3):
    one = random_air(rand, span)
    doors = sorted({row[3] for row in one[3]} - {None})
    ons = [(), ("oven",), ("stove",), ("oven", "stove")]
    frees = [()] + [(door,) for door in doors] + ([tuple(doors)] if len(doors) > 1 else [])
    return one, tuple(rand.sample(ons, rand.randint(1, 4))), tuple(rand.sample(frees, rand.randint(1, len(frees))))


class Game:
    """[92] over states as they are told."""

    def __init__(self, one, choices, doors):
        self.air, self.choices, self.doors = one, choices, doors
        self.least, self.most, _, self.move = one[5]
        rows = itertools.product(*[range(low, high + 1) for _, low, high, _ in one[1]])
        self.states = [(row, weather) for row in rows for weather in range(self.least, self.most + 1)]

    def nexts(self, state, choice):
        """The world's pairs, each with the state to which it leads, None for out of bounds."""
        degrees, weather = state
        for new in range(max(self.least, weather - self.move), min(self.most, weather + self.move) + 1):
            for door, free in enumerate(self.doors):
                behind = air.next_degrees(self.air, degrees, new, (self.choices[choice], free))
                inside = all(low <= degree <= high for degree, (_, low, high, _) in zip(behind, self.air[1]))
                yield (new, door), ((behind, new) if inside else None)

    def ranks(self):
        """The least r for which the world wins within r, by trying r after r."""
        ranks = {}
        for rank in itertools.count(1):
            fresh = [state for state in self.states if state not in ranks and all(
                any(behind is None or ranks.get(behind, rank) < rank for _, behind in self.nexts(state, choice))
                for choice in range(len(self.choices)))]
            if not fresh:
                return {state: ranks.get(state, 0) for state in self.states}
            ranks.update(dict.fromkeys(fresh, rank))


class Ranks(unittest.TestCase):
    def test_against_trying(self):
        rand = seeded(1)
        seen = {}
        for _ in range(120):
            game = Game(*random_game(rand))
            made = comfort.Comfort(game.air, game.choices, game.doors)
            self.assertEqual((made.air, made.choices, made.doors), (game.air, game.choices, game.doors))
            self.assertEqual(made.states(), game.states)
            ranks = game.ranks()
            rows = []
            for state in game.states:
                seen[ranks[state]] = seen.get(ranks[state], 0) + 1
                self.assertEqual(made.rank(state), ranks[state])
                answers = []
                for choice in range(len(game.choices)):
                    found = list(game.nexts(state, choice))
                    out = [pair for pair, behind in found if behind is None]
                    lost = [(ranks[behind], pair) for pair, behind in found if behind and ranks[behind]]
                    answers.append(min(out) if out else min(lost)[1] if lost else None)
                    self.assertEqual(made.answer(state, choice), answers[-1])
                free = tuple(choice for choice, answer in enumerate(answers) if answer is None)
                self.assertEqual(made.free(state), free)
                rows.append((state, ranks[state], tuple(answers) if ranks[state] else free))
            self.assertEqual(comfort.comfort_paper(game.air, game.choices, game.doors), tuple(rows))
        self.assertGreater(min(seen[rank] for rank in (0, 1, 2, 3)), 10)

    def test_degrees_below_zero_go_down(self):
        one = ("air", (("hall", -4, 0, -1),), 2, (("hall", "out", 1, None),), (), (-4, 0, -1, 1))
        made = comfort.Comfort(one, ((),), ((),))
        # -1 with -2 outside: (-1 - 2) // 2 is -2.
        self.assertEqual(made.rank(((-1,), -2)), 0)
        cold = ("air", (("hall", -1, 0, -1),), 2, (("hall", "out", 1, None),), (), (-2, 0, -1, 1))
        self.assertEqual(comfort.Comfort(cold, ((),), ((),)).answer(((-1,), -1), 0), (-2, 0))

    def test_by_hand(self):
        """A stove that must be on when it is cold: 0 outside takes a degree in each tick, the stove brings one."""
        one = ("air", (("hall", 1, 4, 2),), 3, (("hall", "out", 1, "door"),), (("stove", "hall", 3),), (0, 0, 0, 0))
        made = comfort.Comfort(one, ((), ("stove",)), ((), ("door",)))
        self.assertEqual(made.states(), [((degree,), 0) for degree in (1, 2, 3, 4)])
        # (2 * 2 + 3) // 3 = 2 with the door free, 3 with it shut: the world can keep 2, or heat up to 4.
        self.assertEqual([made.rank(state) for state in made.states()], [0, 0, 0, 0])
        self.assertEqual(made.free(((1,), 0)), (1,))
        self.assertEqual(made.free(((2,), 0)), (0, 1))
        self.assertEqual(made.free(((4,), 0)), (0,))
        self.assertEqual(made.answer(((4,), 0), 1), (0, 0))
        lost = comfort.Comfort(one, ((),), (("door",),))
        self.assertEqual([lost.rank(state) for state in lost.states()], [1, 2, 3, 3])

    def test_just_a_thousand_states_and_more(self):
        def wide(rooms, weathers):
            rows = tuple((name, 0, size - 1, 0) for name, size in zip(("a", "b", "c"), rooms))
            return ("air", rows, 1, (), (), (0, weathers - 1, 0, 1))
        self.assertEqual(len(comfort.Comfort(wide((8, 5, 5), 5), ((),), ((),)).states()), 1000)
        for rooms, weathers in [((7, 8, 9), 2), ((9, 9, 9), 9), ((8, 7, 9), 2)]:
            for call in (comfort.Comfort, comfort.comfort_paper):
                with self.assertRaises(errors.TooMany) as caught:
                    call(wide(rooms, weathers), ((),), ((),))
                self.assertEqual(caught.exception.most, 1000)
            with self.assertRaises(errors.TooMany):
                comfort.is_comfort_paper(wide(rooms, weathers), ((),), ((),), None)
            with self.assertRaises(errors.BadDoors):
                comfort.Comfort(wide(rooms, weathers), ((),), ())


class Papers(unittest.TestCase):
    def is_paper(self, game, value):
        """[92] of a value whose rows have the right form."""
        ranks = {state: rank for state, rank, _ in value}
        if [state for state, _, _ in value] != game.states:
            return False
        for state, rank, lot in value:
            nexts = [list(game.nexts(state, choice)) for choice in range(len(game.choices))]
            kept = [choice for choice, found in enumerate(nexts)
                    if all(behind is not None and ranks[behind] == 0 for _, behind in found)]
            if rank == 0 and (list(lot) != kept or not kept):
                return False
            if rank > 0:
                if len(lot) != len(nexts):
                    return False
                for pair, found in zip(lot, nexts):
                    behind = dict(found).get(pair, state) if pair in dict(found) else "no"
                    if behind == "no" or (behind is not None and not 0 < ranks[behind] < rank):
                        return False
        return True

    def test_near_papers(self):
        rand = seeded(2)
        right = wrong = 0
        while right < 60 or wrong < 200:
            game = Game(*random_game(rand, 2))
            paper = list(comfort.comfort_paper(game.air, game.choices, game.doors))
            for _ in range(8):
                other = list(paper)
                for _ in range(rand.randint(1, 2)):
                    at = rand.randrange(len(other))
                    state, rank, lot = other[at]
                    kind = rand.randrange(4)
                    if kind == 0:
                        rank = max(0, rank + rand.choice([-1, 1, 5]))
                    elif kind == 1 and lot:
                        lot = lot[:-1]
                    elif kind == 2 and rank:
                        lot = lot[:-1] + ((rand.randint(game.least, game.most), rand.randrange(len(game.doors))),)
                    elif kind == 3 and not rank:
                        lot = tuple(range(len(game.choices)))
                    other[at] = (state, rank, lot)
                want = self.is_paper(game, other)
                right, wrong = right + want, wrong + (not want)
                self.assertIs(comfort.is_comfort_paper(game.air, game.choices, game.doors, tuple(other)), want)
            greater = tuple((state, 2 * rank, lot) for state, rank, lot in paper)
            self.assertIs(comfort.is_comfort_paper(game.air, game.choices, game.doors, greater), True)
            self.assertIs(comfort.is_comfort_paper(game.air, game.choices, game.doors, tuple(paper[:-1])), False)
            self.assertIs(comfort.is_comfort_paper(game.air, game.choices, game.doors, tuple(paper[::-1])), len(paper) == 1)
            self.assertIs(comfort.is_comfort_paper(game.air, game.choices, game.doors, paper), False)


class Escapes(unittest.TestCase):
    def second(self, game, state, controller):
        """The least of the shortest rows, by all rows of one length after the other."""
        layer, seen = [((), 0, state)], set()
        while layer:
            nexts = []
            for row, memory, here in layer:
                choice, behind_memory = controller(memory, *here)
                for pair, behind in game.nexts(here, choice):
                    if behind is None:
                        return list(row) + [pair]
                    nexts.append((row + (pair,), behind_memory, behind))
            layer = []
            for row, memory, here in sorted(nexts, key=lambda one: one[0]):
                if (memory, here) not in seen:
                    seen.add((memory, here))
                    layer.append((row, memory, here))
        return None

    def test_against_all_rows(self):
        rand = seeded(3)
        lengths = {}
        for _ in range(150):
            game = Game(*random_game(rand))
            made = comfort.Comfort(game.air, game.choices, game.doors)
            table = {}
            memories = rand.choice([1, 3, 10])

            def controller(memory, degrees, weather):
                free = made.free((degrees, weather))
                choice = rand.choice(free) if free and rand.random() < 0.9 else rand.randrange(len(game.choices))
                return table.setdefault((memory, degrees, weather), (choice, rand.randrange(memories)))

            for state in rand.sample(game.states, min(4, len(game.states))):
                want = self.second(game, state, controller)
                self.assertEqual(comfort.escape(made, state, controller), want)
                size = None if want is None else len(want)
                lengths[size] = lengths.get(size, 0) + 1
                if made.rank(state) > 0:
                    self.assertIsNotNone(want)
                    self.assertGreaterEqual(len(want), 1)
            self.assertIsNone(comfort.escape(made, game.states[0], lambda memory, degrees, weather: (
                (made.free((degrees, weather)) or (0,))[0], 0)) if made.rank(game.states[0]) == 0 else None)
        self.assertGreater(min(lengths.get(size, 0) for size in (None, 1, 2)), 10)

    def test_something_else_returned(self):
        one = ("air", (("hall", 0, 4, 2),), 2, (("hall", "out", 1, None),), (("stove", "hall", 2),), (0, 4, 2, 4))
        made = comfort.Comfort(one, ((), ("stove",)), ((),))
        state = ((2,), 2)
        for value in [None, 0, (0,), (0, 0, 0), [0, 0], (2, 0), (-1, 0), (0, 10), (0, -1), (True, 0), (0, False), (0, None), "00"]:
            with self.assertRaises(errors.BadController):
                comfort.escape(made, state, lambda memory, degrees, weather: value)
            # At a question behind which the world has won already, too: another row leads there.
            with self.assertRaises(errors.BadController):
                comfort.escape(made, state, lambda memory, degrees, weather: (1, 1) if memory == 0 else value)
            # Where nobody comes no question is asked.
            calls = []

            def careful(memory, degrees, weather):
                calls.append((memory, degrees, weather))
                return value if memory == 5 else (0, 0)

            comfort.escape(made, state, careful)
            self.assertEqual(len(calls), len(set(calls)))
        with self.assertRaises(errors.BadComfort):
            comfort.escape(None, state, None)
        with self.assertRaises(errors.BadState):
            comfort.escape(made, ((5,), 2), None)

    def test_lost_at_once(self):
        one = ("air", (("hall", 0, 1, 0),), 1, (("hall", "out", 1, "door"),), (), (0, 2, 0, 2))
        made = comfort.Comfort(one, ((),), ((), ("door",)))
        self.assertEqual(comfort.escape(made, ((0,), 0), lambda memory, degrees, weather: (0, 9)), [(2, 1)])
        self.assertEqual(made.rank(((0,), 0)), 1)


class Switches(unittest.TestCase):
    def second(self, game, ranks, state, before, ticks):
        if ticks == 0:
            return 0
        found = []
        for choice in range(len(game.choices)):
            nexts = [behind for _, behind in game.nexts(state, choice)]
            if all(behind is not None and ranks[behind] == 0 for behind in nexts):
                worst = max(self.second(game, ranks, behind, choice, ticks - 1) for behind in set(nexts))
                found.append(worst + (before is not None and choice != before))
        return min(found)

    def test_against_trying(self):
        rand = seeded(4)
        seen = {}
        while sum(seen.values()) < 250:
            game = Game(*random_game(rand, 2))
            ranks = game.ranks()
            made = comfort.Comfort(game.air, game.choices, game.doors)
            for state in rand.sample(game.states, min(3, len(game.states))):
                before = rand.choice([None] + list(range(len(game.choices))))
                ticks = rand.randint(0, 3)
                want = None if ranks[state] else self.second(game, ranks, state, before, ticks)
                self.assertEqual(comfort.least_switches(made, state, before, ticks), want)
                seen[want] = seen.get(want, 0) + 1
        self.assertGreater(min(seen.get(want, 0) for want in (None, 0, 1)), 8)

    def test_turns_needed(self):
        """Each choice can be made but once in a row: it must change in each tick."""
        one = ("air", (("hall", 0, 1, 0),), 1, (), (("down", "hall", -1), ("up", "hall", 1)), (0, 0, 0, 0))
        made = comfort.Comfort(one, (("down",), ("up",)), ((),))
        self.assertEqual([comfort.least_switches(made, ((0,), 0), None, ticks) for ticks in (0, 1, 2, 12)], [0, 0, 1, 11])
        self.assertEqual(comfort.least_switches(made, ((0,), 0), 0, 12), 12)
        self.assertEqual(comfort.least_switches(made, ((0,), 0), 1, 12), 11)

    def test_errors(self):
        one = ("air", (("hall", 0, 1, 0),), 1, (), (), (0, 0, 0, 0))
        made = comfort.Comfort(one, ((),), ((),))
        state = ((0,), 0)
        for error, args in [(errors.BadComfort, (one, None, "no", None)), (errors.BadState, (made, None, "no", None)),
                            (errors.BadChoice, (made, state, "no", None)), (errors.BadChoice, (made, state, 1, None)),
                            (errors.BadChoice, (made, state, False, None)), (errors.BadTicks, (made, state, None, 13)),
                            (errors.BadTicks, (made, state, 0, True)), (errors.BadTicks, (made, state, 0, -1))]:
            with self.assertRaises(error):
                comfort.least_switches(*args)


class Errors(unittest.TestCase):
    def test_choices_and_doors(self):
        one = random_air(seeded(5))
        one = one[:3] + ((("hall", "out", 1, "door"), ("hall", "out", 1, "gap")),) + one[4:]
        if "hall" not in [row[0] for row in one[1]]:
            self.fail()
        doors = ((), ("door",), ("door", "gap"), ("gap",))
        good = ((), ("oven",), ("oven", "stove"), ("stove",))
        comfort.Comfort(one, good, doors)
        for wrong in [None, (), [()], ((), ()), (("stove", "oven"),), (("oven", "oven"),), (("door",),), ("oven",), (["oven"],),
                      (None,), good + ((),)]:
            with self.assertRaises(errors.BadChoices):
                comfort.Comfort(one, wrong, None)
        for wrong in [None, (), [()], ((), ()), (("gap", "door"),), (("oven",),), ("door",), (["door"],), (None,)]:
            with self.assertRaises(errors.BadDoors):
                comfort.Comfort(one, good, wrong)
        with self.assertRaises(errors.BadAir):
            comfort.Comfort(one[:5], None, None)

    def test_states(self):
        one = ("air", (("hall", 0, 2, 1), ("lab", -1, 1, 0)), 1, (), (), (0, 3, 0, 1))
        made = comfort.Comfort(one, ((),), ((),))
        for state in [None, (), ((0, 0),), ((0,), 0), ((0, 0, 0), 0), ((3, 0), 0), ((0, -2), 0), ((0, 0), 4), ((0, 0), -1),
                      [(0, 0), 0], ([0, 0], 0), ((True, 0), 0), ((0, 0), True), ((0, None), 0)]:
            for call in (made.rank, made.free, lambda value: made.answer(value, None)):
                with self.assertRaises(errors.BadState):
                    call(state)
        for choice in [None, -1, 1, True, "0"]:
            with self.assertRaises(errors.BadChoice):
                made.answer(((0, 0), 0), choice)

    def test_greatest(self):
        one = ("air", (("a", 0, 8, 4), ("b", 0, 8, 4)), 12,
               (("a", "b", 1, "d"), ("b", "a", 1, "d"), ("a", "out", 2, "e"), ("b", "out", 2, "f"), ("a", "out", 3, None),
                ("b", "out", 3, None)), (("x", "a", 5), ("y", "b", 6), ("z", "a", -7)), (0, 8, 4, 8))
        ons = tuple(on for size in range(4) for on in itertools.combinations("xyz", size))
        frees = tuple(free for size in range(4) for free in itertools.combinations("def", size))
        paper = comfort.comfort_paper(one, ons, frees)
        self.assertIs(comfort.is_comfort_paper(one, ons, frees, paper), True)
        made = comfort.Comfort(one, ons, frees)
        kept = [state for state in made.states() if made.rank(state) == 0]
        self.assertEqual(len(made.states()), 729)
        if kept:
            self.assertEqual(comfort.least_switches(made, kept[0], None, 0), 0)
            comfort.least_switches(made, kept[0], 7, 12)
        comfort.escape(made, ((4, 4), 4), lambda memory, degrees, weather: ((memory + sum(degrees)) % 8, (memory * 3 + weather) % 10))


if __name__ == "__main__":
    unittest.main()
