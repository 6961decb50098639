"""What is promised over the whole program, [2] point by point, by what the files tell of the same things."""
import itertools
import unittest

import helper
from helper import HOUSE, TEXT, random_building, random_text, random_world, seeded
from housekept import (bench, comfort, desk, errors, escapes, exchange, games, guarded, households, joined, journals, least, letters, logs,
                       machines, marks, meaning, papers, promises, rules, safe, storms, tables, texts, times, trees, twins, unseen,
                       waits, webs, whereabouts)
from test_journals import busy
from test_lags import samples as parted
from test_logs import samples as logged
from test_rolling import owned
from test_safe import is_within as is_below
from test_weathers import random_air, settings

LOOKS = ("doors", "endless", "words")


def small_machines(seed, many, most=60):
    rand = seeded(seed)
    found = 0
    while found < many:
        text = random_text(rand, random_building(rand, 3, 2, 2), 12)
        try:
            machine = machines.Machine(text, random_world(rand, text))
        except (errors.TooMany, errors.TooLong):
            continue
        if len(machine) <= most:
            found += 1
            yield rand, machine


class Whole(unittest.TestCase):
    def test_texts_are_alike_or_parted(self):
        """(a) Least forms are equal exactly if no row parts two texts; the row is answered unlike, at its last signal first."""
        seen = {True: 0, False: 0}
        for rand, machine in small_machines(1, 40):
            lot = [rand.randrange(len(machine.text[5]))]
            if len(machine.text[5]) == 1:
                continue
            less = machine.text[:5] + (tuple(rule for at, rule in enumerate(machine.text[5]) if at not in lot),)
            other = machines.Machine(less, machine.world)
            row = least.alike(machine, other, LOOKS)
            self.assertIs(row is None, least.least(machine, LOOKS) == least.least(other, LOOKS))
            seen[row is None] += 1
            if row is not None:
                one, two = machines.answers(machine, row), machines.answers(other, row)
                self.assertEqual([a == b for a, b in zip(one, two)], [True] * (len(row) - 1) + [False])
        self.assertGreater(min(seen.values()), 5)

    def test_promises(self):
        """(b) Least households, a paper, a shortest course, trees and twins tell the same of a promise."""
        broken = 0
        for rand, machine in small_machines(2, 60, 25):
            building, web = machine.text[1], webs.web_of(machine)
            needs = ((rand.choice(building[3] + ("any",)), rand.choice(building[1]), rand.randint(1, 2)),)
            places = tuple(at for at in range(len(machine)) if rand.random() < 0.5)
            promise = ("never", places, needs)
            loads = promises.loads_of(building, web, promise)
            try:
                table = tables.Table(building, web, loads, 1000)
            except errors.TooMany:
                continue
            found = households.households_of(table)
            for household in itertools.product(range(3), repeat=len(building[3])):
                holds = not any(is_below(one, household) for one, _ in found)
                self.assertIs(households.holds_for(table, household), holds)
                self.assertIs(papers.keeps(building, web, loads, table.paper(), household), holds)
                # The greatest number that comes is below the need exactly if the promise holds.
                tree = self.tree(building, web, household)
                if tree is not None:
                    most = tree.greatest(places, needs[0][0], needs[0][1])
                    self.assertIs(most is None or most < needs[0][2], holds)
                merged = twins.merged(building, web)
                if needs[0][0] == "any":
                    again = tables.Table(building, merged, promises.loads_of(building, merged, promise), 1000)
                    self.assertIs(households.holds_for(again, twins.merged_household(building, web, household)), holds)
            for household, course in found:
                broken += 1
                self.assertIs(households.is_break(building, web, loads, household, course), True)
                first = (tuple((number,) + (0,) * (len(building[1]) - 1) for number in household))
                moves = promises.brute(building, web, loads, course[0], first, 20000)
                self.assertEqual(moves, course[1])
        self.assertGreater(broken, 20)

    def tree(self, building, web, household):
        try:
            return trees.Tree(building, web, household, 400)
        except errors.TooMany:
            return None

    def test_ways_out(self):
        """(c) Behind a free door nobody is shut in; who comes out within t has deeds, who does not can be hindered."""
        out = stuck = 0
        for rand, machine in small_machines(3, 90, 25):
            kinds, inner = machine.text[1][3], machine.text[1][1][1:]
            for kind in kinds:
                found = games.way_outs(machine, kind, 1)
                at, area = rand.randrange(len(machine)), rand.choice(inner)
                t = found[at][area]
                out += t is not None
                stuck += t is None
                for other in (0, 1, 3):
                    self.assertIs(games.hinder(machine, kind, 1, at, area, other) is None, t is not None and t <= other)
                self.assertIs(games.deeds_out(machine, kind, 1, at, area, []) is None, t is None)
            area = rand.choice(inner)
            if area in machine.world[1]:
                for t in (0, 2):
                    try:
                        bad = escapes.shut_in(machine, area, t)
                        self.assertIs(bad == [], escapes.safe_after(machine, area) is not None and escapes.safe_after(machine, area) <= t)
                    except errors.TooMany:
                        continue
        self.assertGreater(min(out, stuck), 10)

    def test_letters_and_panels(self):
        """(d) What holds through any silence holds in each net, for each patience."""
        checked = bad = 0
        for rand, text, parting, _, world in parted(41, 60):
            name, worths = rand.choice(rules.variables(text))
            question = rand.choice([("is", name, rand.choice(worths)), ("both", ("stands", "a", "free"), ("stands", "b", "free"))])
            needs = rand.choice([(), (("guest", "room", 1),)])
            try:
                found, _ = safe.any_silence(text, parting, world, 0, question, needs)
                more, _ = safe.any_silence(text, parting, world, 1, question, needs)
            except errors.TooMany:
                continue
            # With falls more can come.
            self.assertTrue(all(any(is_below(one, other) for one, _ in more) for other, _ in found))
            for patience, late, lost in [(0, 0, 0), (1, 0, None), (0, 0, None), (2, 1, 1)]:
                shares = parting[:3] + (patience,) + parting[4:]
                try:
                    web, standings = joined.joint_web(text, shares, ("net", late, lost), world)
                    plain = helper.Plain(text)
                    places = tuple(at for at, joint in enumerate(standings)
                                   if plain.true(plain.opened(owned(text, shares, joint)), question, False))
                    breaking = households.households(text[1], web, ("never", places, needs))
                except errors.TooMany:
                    continue
                for household, _ in breaking:
                    self.assertTrue(any(is_below(one, household) for one, _ in found))
                    bad += 1
                checked += not found
        self.assertGreater(min(checked, bad), 10)

    def test_pointers(self):
        """(d) Rows of pointers are those that letters of the net bring about."""
        for net in itertools.product(["net"], range(3), (None, 0, 1)):
            for row in itertools.product(*[range(tick) for tick in range(1, 5)]):
                if letters.is_pointer_row(net, list(row)):
                    course = letters.letters_of(net, list(row))
                    self.assertIs(letters.has_net(net, course), True)
                    self.assertEqual(letters.pointers(course), list(row))

    def test_exchange(self):
        """(e) At good standings an exchange breaks nothing; at each other one it can."""
        seen = {True: 0, False: 0}
        for rand, machine in small_machines(5, 70, 12):
            text = machine.text
            new = text[:5] + (tuple(rand.sample(text[5], max(1, len(text[5]) // 2))),)
            question = ("stands", text[1][2][0][0], "free")
            needs = (("any", text[1][1][1], 1),)
            try:
                good = exchange.good(machine, new, {}, question, needs, None)
                web, at, standings = exchange.exchange_web(machine, new, {})
            except errors.TooMany:
                continue
            plain = helper.Plain(new)
            old = len(machine)
            places = tuple(place for place in range(old, len(standings)) if plain.true(plain.opened(standings[place]), question, False))
            for one in range(old):
                rows = [moves if place in (one,) or place >= old else moves[:-1] for place, moves in enumerate(web[2])]
                found = households.households(text[1], ("web", (0,), tuple(rows)), ("never", places, needs))
                self.assertIs(one in good, found == [])
                seen[found == []] += 1
        self.assertGreater(min(seen.values()), 10)

    def test_waits(self):
        """(f) Clocks, rings and delays tell of the same waits."""
        for rand, machine in small_machines(6, 30):
            web = webs.web_of(machine)
            door = rand.choice(machine.text[1][2])[0]
            free, shut = marks.free_marks(machine, door)
            for one, other in [(shut, free), (free, shut)]:
                within, soonest = times.within(web, one, other), waits.soonest(web, one, other)
                clock = times.clock(web, one, other)
                if within is None:
                    self.assertIs(times.is_ring(web, one, other, times.ring(web, one, other)), True)
                else:
                    self.assertEqual(times.bound(web, one, other, clock), within)
                    if soonest is not None and marks.starts(web, one, other):
                        self.assertLessEqual(soonest, within)
                if soonest is not None:
                    self.assertIs(waits.is_delay(web, one, other, min(soonest, 400), waits.delay(web, one, other, min(soonest, 400))), True)

    def test_air_and_alarms(self):
        """(f) Who does not see the weather keeps the bounds only where who sees it does; storms are no shorter than a building."""
        rand = seeded(7)
        seen = 0
        for _ in range(40):
            one = random_air(rand, 1, 4)
            lots = settings(one)
            choices, doors = tuple(dict.fromkeys(on for on, _ in lots)), tuple(dict.fromkeys(free for _, free in lots))
            sighted, blind = comfort.Comfort(one, choices, doors), unseen.Unseen(one, choices, doors)
            for degrees, weather in sighted.states():
                if blind.rank((degrees, weather, weather)) == 0:
                    self.assertEqual(sighted.rank((degrees, weather)), 0)
                    self.assertTrue(set(blind.free((degrees, weather, weather))) <= set(sighted.free((degrees, weather))))
                    seen += 1
        self.assertGreater(seen, 30)
        machine = machines.Machine(TEXT, ("world", ("lab",), (1,), (), 0))
        watch = ("watch", ((1, 1, 2), (9, 3, 1)), (("ann", 1), ("bob", 0)), 1, 1, "keep")
        watched, storm = guarded.Guarded(machine, watch, (("smoke", "lab", "yes"), ("card", "front", 0, "guest"))), storms.Storm(watch)
        for word in (1, 9):
            if storm.longest(word) is not None:
                self.assertLessEqual(watched.longest(word), storm.longest(word))

    def test_whereabouts(self):
        """(f) Where persons may be is where some course has them."""
        many = 0
        for _, text, log in logged(51, 60):
            course = logs.course_of(text, log)
            if course is None:
                continue
            for moment, placement in enumerate(logs.placed(text, log, course)):
                for person, area in enumerate(placement):
                    self.assertIn(area, whereabouts.may(text, log, person, moment))
                    self.assertIsNone(whereabouts.bar(text, log, person, moment, area))
                many += 1
        self.assertGreater(many, 30)

    def test_bench_and_desk(self):
        """(g) A bench stands as if its deeds were done by a fresh one, a desk as one that is told the journal."""
        rand = seeded(8)
        for _ in range(15):
            one = busy(rand, 25)
            fresh, other = bench.Bench(TEXT, [2, 1]), desk.Desk()
            other.say("read 2 1\n" + texts.text_of(TEXT))
            for deed, line in zip(one.log, journals.journal(one)):
                journals.answer_to(fresh, deed)
                told, _, answer = line.rpartition(" : ")
                self.assertEqual(other.say(told), answer)
            self.assertEqual((fresh, fresh.now, fresh.crowd(), fresh.kept), (one, one.now, one.crowd(), one.kept))
            self.assertEqual(other.say("text"), texts.text_of(one.text))
            doors = [door[0] for door in HOUSE[2]]
            self.assertEqual(other.say("doors"), ", ".join(name + " " + how for name, how in zip(doors, one.doors())))
            row = [deed[1] for deed in one.log if deed[0] == "signal"]
            if len(row) == len(one):
                self.assertEqual(one.now, meaning.behind(TEXT, row))


if __name__ == "__main__":
    unittest.main()
