"""[43]: tables."""
import itertools
import unittest

from helper import HOUSE, PLAIN, SMALL, put, seeded
from housekept import crowds, errors, machines, promises, tables, webs
from test_promises import WEB, IN, ON, crowds_up_to, met_by, random_promise, random_web, stepped

LOADS = ((((0, 0, 2), (0, 0, 0)),), ())


def within(one, other):
    return all(a <= b for row, beside in zip(one, other) for a, b in zip(row, beside))


def forwards(web, loads, small, most):
    """For each place and small crowd the fewest moves to where loads are met, None if more than most: by walking."""
    left = {(place, crowd): 0 for place in range(len(web[2])) for crowd in small if met_by(loads, (place, crowd))}
    for many in range(1, most + 1):
        for place, crowd in itertools.product(range(len(web[2])), small):
            if (place, crowd) not in left:
                for move in web[2][place]:
                    behind = stepped(crowd, move)
                    if behind is not None and left.get((move[3], behind), many) < many:
                        left[(place, crowd)] = many
                        break
    return left


class Tables(unittest.TestCase):
    def test_by_hand(self):
        table = tables.Table(HOUSE, WEB, LOADS, 50)
        self.assertEqual((table.building, table.web, table.loads), (HOUSE, WEB, LOADS))
        zero = (0, 0, 0)
        self.assertEqual(table.least(0, 0), [((0, 0, 2), zero)])
        self.assertEqual(table.least(1, 0), [])
        self.assertEqual(table.least(1, 1), [((0, 1, 1), zero)])
        self.assertEqual(table.least(0, 2), [((0, 0, 2), zero), ((1, 0, 1), zero)])
        self.assertEqual(table.least(1, 2), [((0, 1, 1), zero)])
        self.assertEqual(table.least(1, 3), [((0, 1, 1), zero), ((1, 1, 0), zero)])
        self.assertEqual(table.least(0, 4), [((0, 0, 2), zero), ((1, 0, 1), zero), ((2, 0, 0), zero)])
        self.assertEqual(table.rounds, 4)
        self.assertEqual(table.least(0, 10 ** 99), table.least(0, 4))
        self.assertEqual(table.paper(), (tuple(table.least(0, 4)), tuple(table.least(1, 4))))
        self.assertEqual([table.left(0, ((2, 0, 0), zero)), table.left(0, ((1, 9, 1), zero)), table.left(1, ((9, 1, 1), zero)),
                          table.left(0, ((1, 9, 0), (9, 9, 9))), table.left(0, ((0, 0, 2), zero))], [4, 2, 1, None, 0])
        self.assertEqual(table.next_move(0, ((2, 0, 0), zero)), IN)
        self.assertIsNone(table.next_move(0, ((0, 0, 2), zero)))
        self.assertIsNone(table.next_move(0, ((1, 0, 0), zero)))
        self.assertEqual(table.moves_left(0, ((2, 0, 0), zero)), [IN, ON, IN, ON])
        self.assertEqual(table.moves_left(0, ((0, 0, 2), zero)), [])
        self.assertIsNone(table.moves_left(0, ((1, 0, 0), zero)))

    def test_nothing_to_meet(self):
        table = tables.Table(HOUSE, WEB, ((), ()), 1)
        self.assertEqual((table.rounds, table.paper(), table.least(0, 3)), (0, ((), ()), []))
        self.assertIsNone(table.left(0, ((1, 1, 1), (1, 1, 1))))

    def test_loads_need_not_be_least(self):
        low, high = ((0, 0, 1), (0, 0, 0)), ((0, 0, 2), (0, 0, 1))
        table = tables.Table(HOUSE, WEB, ((high, low, high), ()), 9)
        self.assertEqual(table.least(0, 0), [low])

    def test_most_just_reached_and_passed(self):
        self.assertEqual(tables.Table(HOUSE, WEB, LOADS, 5).rounds, 4)
        for most in (1, 2, 3, 4):
            with self.assertRaises(errors.TooMany) as caught:
                tables.Table(HOUSE, WEB, LOADS, most)
            self.assertEqual(caught.exception.most, most)
        pair = (((0, 0, 1), (0, 0, 0)), ((0, 0, 0), (0, 0, 1)))
        with self.assertRaises(errors.TooMany):
            tables.Table(HOUSE, ("web", (0,), ((),)), (pair,), 1)
        for most in (0, 20001, True, None):
            with self.assertRaises(errors.BadMost):
                tables.Table(HOUSE, WEB, LOADS, most)

    def test_crowds_that_stop_being_least(self):
        """Two of one kind, reached by a move that needs one alone: the load stops being least."""
        go = (("go",), ("guest", "out"), ("guest", "lab"), 0)
        free = (("free",), None, None, 1)
        web = ("web", (0,), ((go, free), ()))
        loads = ((((3, 0, 0), (0, 0, 0)),), (((1, 0, 0), (0, 0, 0)),))
        table = tables.Table(HOUSE, web, loads, 2)
        self.assertEqual([table.least(0, 0), table.least(0, 1)], [[((3, 0, 0), (0, 0, 0))], [((1, 0, 0), (0, 0, 0))]])
        self.assertEqual(table.left(0, ((3, 0, 0), (0, 0, 0))), 0)
        self.assertEqual(table.left(0, ((2, 0, 0), (0, 0, 0))), 1)
        self.assertEqual(table.rounds, 1)

    def test_wrong_arguments(self):
        table = tables.Table(HOUSE, WEB, LOADS, 50)
        for k in (-1, True, None, "0"):
            with self.assertRaises(errors.BadRound):
                table.least(0, k)
        for place in (-1, 2, True, None):
            for call in (table.least, table.left, table.next_move, table.moves_left):
                with self.assertRaises(errors.BadPlace):
                    call(place, None)

    def test_great_numbers(self):
        loads = ((((0, 0, 10 ** 99), (0, 0, 0)),), ())
        with self.assertRaises(errors.TooMany):
            tables.Table(HOUSE, WEB, loads, 50)
        web = ("web", (0,), ((IN[:3] + (1,),), (ON[:3] + (2,),), ()))
        table = tables.Table(HOUSE, web, ((), (), loads[0]), 50)
        crowd = ((2, 5, 10 ** 99 - 1), (0, 10 ** 99, 0))
        self.assertEqual(table.left(0, crowd), 2)
        self.assertIsNone(table.left(0, put(crowd, (0, 2), 10 ** 99 - 2)))
        self.assertEqual(table.least(0, 2), [((1, 0, 10 ** 99 - 1), (0, 0, 0))])
        self.assertEqual(table.moves_left(0, put(crowd, (0, 2), 10 ** 100)), [web[2][0][0], web[2][1][0]])

    def test_against_walking_forwards(self):
        small = [crowd for crowd in crowds_up_to(3) if sum(map(sum, crowd)) <= 3]
        bounded = 0
        for seed in range(60):
            rand = seeded(seed)
            web = random_web(rand)
            loads = promises.loads_of(HOUSE, web, random_promise(rand))
            left = forwards(web, loads, small, 12)
            try:
                table = tables.Table(HOUSE, web, loads, 400)
            except errors.TooMany:
                continue
            bounded += 1
            for place, crowd in itertools.product(range(len(web[2])), rand.sample(small, 40)):
                many = left.get((place, crowd))
                if many is None and (table.left(place, crowd) or 0) > 12:
                    continue
                self.assertEqual(table.left(place, crowd), many)
                self.check_moves(table, web, loads, place, crowd, many)
            self.check_rounds(table, web, rand)
        self.assertGreater(bounded, 40)

    def check_moves(self, table, web, loads, place, crowd, many):
        moves = table.moves_left(place, crowd)
        if many is None:
            self.assertIsNone(moves)
            self.assertIsNone(table.next_move(place, crowd))
            return
        self.assertEqual(len(moves), many)
        self.assertEqual(table.next_move(place, crowd), moves[0] if moves else None)
        self.assertEqual(moves, promises.brute(HOUSE, web, loads, place, crowd, 2000))

    def check_rounds(self, table, web, rand):
        places = range(len(web[2]))
        self.assertEqual(table.paper(), tuple(tuple(table.least(place, table.rounds)) for place in places))
        rows = [[table.least(place, k) for place in places] for k in range(table.rounds + 2)]
        self.assertEqual(rows[-1], rows[-2])
        for one, other in zip(rows[:-1], rows[1:-1]):
            self.assertNotEqual(one, other)
        for row in rows:
            for lot in row:
                self.assertEqual(lot, sorted(lot))
                self.assertFalse(any(one != other and within(one, other) for one in lot for other in lot))
        for one, other in zip(rows, rows[1:]):
            for place in places:
                more = list(one[place])
                for move in web[2][place]:
                    more.extend(self.backwards(move, crowd) for crowd in one[move[3]])
                self.assertEqual(crowds.least_crowds(HOUSE, more), other[place])

    def backwards(self, move, crowd):
        if move[1] is None:
            return crowd
        rows = [list(row) for row in crowd]
        kind = HOUSE[3].index(move[1][0])
        there, need = HOUSE[1].index(move[2][1]), HOUSE[1].index(move[1][1])
        rows[kind][there] = max(0, rows[kind][there] - 1)
        rows[kind][need] += 1
        return tuple(tuple(row) for row in rows)

    def test_table_of_a_machine(self):
        machine = machines.Machine(PLAIN, ("world", (), (), (), 0))
        web = webs.web_of(machine)
        promise = ("never", (0, 1), (("guest", "room", 2),))
        table = tables.Table(SMALL, web, promises.loads_of(SMALL, web, promise), 100)
        moves = table.moves_left(0, ((2, 0),))
        self.assertEqual([move[0] for move in moves], [("show", "guest", "door", 0), ("go", "guest", "door", 0)] * 2)


if __name__ == "__main__":
    unittest.main()
