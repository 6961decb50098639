"""Papers and twins, by their conditions one by one, and against households gone through one by one."""
import itertools
import unittest

import helper
from helper import seeded
from housekept import courses, crowds, errors, households, papers, promises, tables, twins
from test_trees import ONE, TWO, moments, random_web, within


def random_crowd(rand, building, most=2):
    return tuple(tuple(rand.randint(0, most) for _ in building[1]) for _ in building[3])


def random_loads(rand, building, web, share=0.3):
    return tuple(tuple(sorted({random_crowd(rand, building, 1) for _ in range(rand.randint(1, 2))})) if rand.random() < share else ()
                 for _ in web[2])


def is_plain_paper(building, web, loads, value):
    """[44] rule by rule, of tuples of tuples of crowds."""
    for row in value:
        if list(row) != sorted(set(row)) or any(within(one, other) for one in row for other in row if one != other):
            return False
    if not all(any(within(crowd, load) for crowd in row) for row, lot in zip(value, loads) for load in lot):
        return False
    for place, moves in enumerate(web[2]):
        for move in moves:
            for crowd in value[move[3]]:
                back = courses.ahead(building, move, crowd)
                if not any(within(one, back) for one in value[place]):
                    return False
    return True


class Papers(unittest.TestCase):
    def each(self, seed, many):
        rand = seeded(seed)
        for _ in range(many):
            building = rand.choice([ONE, TWO])
            web = random_web(rand, building, rand.randint(1, 4))
            loads = random_loads(rand, building, web)
            yield rand, building, web, loads, tables.Table(building, web, loads, 20000)

    def test_papers_of_tables(self):
        for _, building, web, loads, table in self.each(1, 60):
            paper = table.paper()
            self.assertIs(papers.is_paper(building, web, loads, paper), True)
            self.assertIs(is_plain_paper(building, web, loads, paper), True)
            for household in itertools.product(range(4), repeat=len(building[3])):
                self.assertIs(papers.keeps(building, web, loads, paper, household), households.holds_for(table, household))

    def test_other_papers(self):
        """What is changed at random, by the conditions; each other paper keeps some of the same households."""
        seen = {True: 0, False: 0, "less": 0}
        for rand, building, web, loads, table in self.each(2, 150):
            paper = table.paper()
            for _ in range(6):
                rows = [list(row) for row in paper]
                at = rand.randrange(len(rows))
                share = rand.random()
                if share < 0.3 and rows[at]:
                    rows[at].pop(rand.randrange(len(rows[at])))
                elif share < 0.5:
                    rows[at] = [((0,) * len(building[1]),) * len(building[3])]
                elif share < 0.6:
                    rows = [[((0,) * len(building[1]),) * len(building[3])] for _ in rows]
                else:
                    rows[at].append(random_crowd(rand, building))
                value = tuple(tuple(row if rand.random() < 0.1 else sorted(row)) for row in rows)
                right = is_plain_paper(building, web, loads, value)
                self.assertIs(papers.is_paper(building, web, loads, value), right)
                seen[right] += 1
                if not right:
                    with self.assertRaises(errors.BadPaper):
                        papers.keeps(building, web, loads, value, None)
                    continue
                for household in itertools.product(range(3), repeat=len(building[3])):
                    kept = papers.keeps(building, web, loads, value, household)
                    first = crowds.crowd_at(building, household)
                    self.assertIs(kept, not any(within(crowd, first) for begin in web[1] for crowd in value[begin]))
                    if kept:
                        self.assertIs(households.holds_for(table, household), True)
                        for place, crowd in moments(building, web, household):
                            self.assertFalse(any(within(load, crowd) for load in loads[place]))
                    seen["less"] += not kept and households.holds_for(table, household)
        self.assertGreater(min(seen.values()), 20, seen)

    def test_by_hand(self):
        go = (("in",), ("x", "out"), ("x", "a"), 0)
        web = ("web", (0,), ((go,),))
        loads = ((((0, 2, 0),),),)
        paper = ((((0, 2, 0),), ((1, 1, 0),), ((2, 0, 0),)),)
        self.assertIs(papers.is_paper(ONE, web, loads, paper), True)
        self.assertIs(papers.keeps(ONE, web, loads, paper, (1,)), True)
        self.assertIs(papers.keeps(ONE, web, loads, paper, (2,)), False)
        for wrong in [((((0, 2, 0),), ((1, 1, 0),)),), ((((0, 2, 0),), ((2, 0, 0),)),), ((((1, 1, 0),), ((2, 0, 0),)),), ((),),
                      ((((0, 2, 0),), ((1, 1, 0),), ((2, 0, 0),), ((3, 0, 0),)),), (paper[0], ()), (paper[0][::-1],), [paper[0]],
                      (list(paper[0]),), ((((0, 2, 0),), ((1, True, 0),), ((2, 0, 0),)),), (paper[0] + paper[0][-1:],)]:
            self.assertIs(papers.is_paper(ONE, web, loads, wrong), False)
        # One who is nowhere needed, and somebody more in b: still a paper.
        more = ((((0, 0, 1),),) + paper[0],)
        self.assertIs(papers.is_paper(ONE, web, loads, more), True)
        zero = ((((0, 0, 0),),),)
        self.assertIs(papers.is_paper(ONE, web, loads, zero), True)
        self.assertIs(papers.keeps(ONE, web, loads, zero, (0,)), False)
        # Loads that nobody meets: nothing need be there.
        self.assertIs(papers.is_paper(ONE, web, ((),), ((),)), True)
        self.assertIs(papers.keeps(ONE, web, ((),), ((),), (10 ** 99,)), True)

    def test_great_numbers(self):
        go = (("in",), ("x", "out"), ("x", "a"), 0)
        web = ("web", (0,), ((go,),))
        most = 10 ** 99
        self.assertIs(papers.is_paper(ONE, web, ((((0, most, 0),),),), ((((0, 0, 0),),),)), True)
        self.assertIs(papers.is_paper(ONE, ("web", (0,), ((),)), ((((0, most, 0),),),), ((((0, most, 0),),),)), True)
        self.assertIs(papers.is_paper(ONE, ("web", (0,), ((),)), ((((0, most, 0),),),), ((((0, most + 1, 0),),),)), False)
        self.assertIs(papers.keeps(ONE, ("web", (0,), ((),)), ((((most, 0, 0),),),), ((((most, 0, 0),),),), (most - 1,)), True)
        self.assertIs(papers.keeps(ONE, ("web", (0,), ((),)), ((((most, 0, 0),),),), ((((most, 0, 0),),),), (most,)), False)

    def test_largest(self):
        tower = ("building", ("out", "a", "b", "c", "d", "e"), (("d", "out", "a", "leaf"),), ("x", "y", "z"), ())
        moves = tuple((("m", kind, one, other), (kind, one), (kind, other), 0)
                      for kind in tower[3] for one in tower[1] for other in tower[1] if one != other)
        web, load = ("web", (0,), (moves,)), ((0, 0, 2, 2, 0, 0), (0, 0, 0, 0, 2, 0), (0,) * 6)
        table = tables.Table(tower, web, ((load,),), 20000)
        paper = table.paper()
        self.assertEqual(len(paper[0]), 2646)
        self.assertIs(papers.is_paper(tower, web, ((load,),), paper), True)
        self.assertIs(papers.is_paper(tower, web, ((load,),), (paper[0][:100] + paper[0][101:],)), False)
        self.assertIs(papers.keeps(tower, web, ((load,),), paper, (4, 1, 9)), True)

    def test_wrong(self):
        web = ("web", (0,), ((),))
        for value in helper.any_values():
            with self.assertRaises(errors.BadBuilding):
                papers.keeps(value, None, None, None, None)
            with self.assertRaises(errors.BadWeb):
                papers.is_paper(ONE, value, None, None)
            with self.assertRaises(errors.BadLoads):
                papers.keeps(ONE, web, value, None, None)
            with self.assertRaises(errors.BadPaper):
                papers.keeps(ONE, web, ((),), value, None)
            if value != (10 ** 99,):
                with self.assertRaises(errors.BadHousehold):
                    papers.keeps(ONE, web, ((),), ((),), value)


class Twins(unittest.TestCase):
    def twinned(self, rand, building, size):
        """A web in which some kinds are twins."""
        web = random_web(rand, building, size, 3)
        if rand.random() < 0.6:
            rows = []
            for moves in web[2]:
                more = [(label, (kind, need[1]), (kind, there[1]), behind)
                        for label, need, there, behind in moves if need for kind in building[3]]
                rows.append(tuple(dict.fromkeys(list(moves) + more)))
            web = web[:2] + (tuple(rows),)
        return web

    def test_facts(self):
        rand = seeded(3)
        seen = {1: 0, 2: 0}
        for _ in range(80):
            web = self.twinned(rand, TWO, rand.randint(1, 3))
            classes = twins.twins(TWO, web)
            alike = all({(need[1], there[1], behind) for _, need, there, behind in moves if need and need[0] == "x"}
                        == {(need[1], there[1], behind) for _, need, there, behind in moves if need and need[0] == "y"} for moves in web[2])
            self.assertEqual(classes, [("x", "y")] if alike else [("x",), ("y",)])
            seen[len(classes)] += 1
            merged = twins.merged(TWO, web)
            self.assertEqual(merged, web[:2] + (tuple(tuple(move for move in moves if not alike or not move[1] or move[1][0] == "x")
                                                      for moves in web[2]),))
            places = tuple(at for at in range(len(web[2])) if rand.random() < 0.6)
            needs = tuple(("any", rand.choice(TWO[1]), rand.randint(1, 2)) for _ in range(rand.randint(0, 2)))
            promise = ("never", places, needs)
            one = tables.Table(TWO, web, promises.loads_of(TWO, web, promise), 20000)
            two = tables.Table(TWO, merged, promises.loads_of(TWO, merged, promise), 20000)
            for household in itertools.product(range(3), repeat=2):
                joined = twins.merged_household(TWO, web, household)
                self.assertEqual(joined, (sum(household), 0) if alike else household)
                self.assertIs(households.holds_for(one, household), households.holds_for(two, joined))
        self.assertGreater(min(seen.values()), 15)

    def test_three_kinds(self):
        building = ("building", ("out", "a"), (("d", "out", "a", "leaf"),), ("x", "y", "z"), ())
        move = lambda kind, behind, label="m": ((label,), (kind, "out"), (kind, "a"), behind)
        web = ("web", (0,), ((move("x", 1), move("y", 1), move("z", 1), move("z", 1, "n"), (("t",), None, None, 1)), (move("x", 0), move("z", 0))))
        self.assertEqual(twins.twins(building, web), [("x", "z"), ("y",)])
        self.assertEqual(twins.merged(building, web),
                         ("web", (0,), ((move("x", 1), move("y", 1), (("t",), None, None, 1)), (move("x", 0),))))
        self.assertEqual(twins.merged_household(building, web, (1, 2, 10 ** 50)), (1 + 10 ** 50, 2, 0))
        empty = ("web", (0,), ((),))
        self.assertEqual(twins.twins(building, empty), [("x", "y", "z")])
        self.assertEqual(twins.merged_household(building, empty, (1, 2, 3)), (6, 0, 0))
        self.assertEqual(twins.merged(building, empty), empty)

    def test_wrong(self):
        web = ("web", (0,), ((),))
        for value in helper.any_values():
            for call, more in [(twins.twins, ()), (twins.merged, ()), (twins.merged_household, (None,))]:
                with self.assertRaises(errors.BadBuilding):
                    call(value, None, *more)
                with self.assertRaises(errors.BadWeb):
                    call(ONE, value, *more)
            if value != (10 ** 99,):
                with self.assertRaises(errors.BadHousehold):
                    twins.merged_household(ONE, web, value)


if __name__ == "__main__":
    unittest.main()
