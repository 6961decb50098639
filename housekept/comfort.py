"""Comfort: whether a controller can keep the degrees in bounds, whatever the weather and the doors do."""
from housekept.air import check_air, is_setting_of, stepped_degrees
from housekept.errors import BadChoice, BadChoices, BadComfort, BadController, BadDoors, BadState, BadTicks, TooMany
from housekept.graphs import labels_to
from housekept.shapes import are_unlike, is_between, is_from, is_tuple

STATES = 1000
OUT = -1


def are_choices(air, value):
    if not is_tuple(value, 1, 8) or not all([is_setting_of(air, (on, ())) for on in value]):
        return False
    return are_unlike(value)


def are_frees(air, value):
    if not is_tuple(value, 1, 8) or not all([is_setting_of(air, ((), free)) for free in value]):
        return False
    return are_unlike(value)


def all_degrees(air):
    """All degrees in bounds, ascending."""
    rows = [()]
    for _, low, high, _ in air[1]:
        rows = [row + (degree,) for row in rows for degree in range(low, high + 1)]
    return rows


def check_lots(air, choices, doors):
    """The errors of an air, of the lots of heaters and of those of doors."""
    check_air(air)
    if not are_choices(air, choices):
        raise BadChoices("this is no tuple of unlike lots of heaters")
    if not are_frees(air, doors):
        raise BadDoors("this is no tuple of unlike lots of doors")


class Game:
    """The moves of a controller and of the world, over numbers of states.

    A state's number is that of its degrees times the number of weathers, and that of its weather. A *spot*
    is a pair of degrees and the next weather, numbered in the same way.
    """

    def __init__(self, air, choices, doors):
        self.degrees = all_degrees(air)
        self.low, most, _, self.move = air[5]
        self.weathers = most - self.low + 1
        self.many = len(self.degrees) * self.weathers
        if self.many > STATES:
            raise TooMany(STATES)
        self.numbers = {row: at for at, row in enumerate(self.degrees)}
        self.choices = len(choices)
        # For each choice and spot the number of the next state by each of the doors, OUT if it is out of bounds.
        self.nexts = [[self.nexts_at(air, spot, on, doors) for spot in range(self.many)] for on in choices]

    def nexts_at(self, air, spot, on, doors):
        degrees, weather = self.degrees[spot // self.weathers], spot % self.weathers
        found = []
        for free in doors:
            behind = self.numbers.get(stepped_degrees(air, degrees, self.low + weather, (on, free)), None)
            found.append(OUT if behind is None else behind * self.weathers + weather)
        return found

    def spots(self, state):
        """The spots to which the world can go from a state, or the states from which it can go to a spot."""
        weather = state % self.weathers
        low, high = max(0, weather - self.move), min(self.weathers - 1, weather + self.move)
        return list(range(state - weather + low, state - weather + high + 1))

    def number(self, state):
        return self.numbers[state[0]] * self.weathers + state[1] - self.low

    def state(self, number):
        return (self.degrees[number // self.weathers], self.low + number % self.weathers)

    def pairs(self, number, choice):
        """The world's pairs behind a choice, ascending: (weather, number of the doors, the next state's number)."""
        return [(self.low + spot % self.weathers, door, behind) for spot in self.spots(number)
                for door, behind in enumerate(self.nexts[choice][spot])]

    def leading(self):
        """For each state, and behind all of them for OUT, the pairs (choice, spot) that can lead there."""
        found = [[] for _ in range(self.many + 1)]
        for choice in range(self.choices):
            for spot, nexts in enumerate(self.nexts[choice]):
                for behind in sorted(set(nexts)):
                    found[behind].append((choice, spot))
        return found

    def ranked(self):
        """For each state within how many ticks the world can win, 0 if never: it goes back from the loss."""
        ranks = [0] * self.many
        lost = [[False] * self.choices for _ in range(self.many)]
        seen = {}
        sources = self.leading()
        fresh = [OUT]
        rank = 0
        while fresh:
            rank += 1
            found = []
            for pair in [pair for behind in fresh for pair in sources[behind] if pair not in seen]:
                if pair not in seen:
                    seen[pair] = True
                    for state in self.spots(pair[1]):
                        lost[state][pair[0]] = True
                        if ranks[state] == 0 and all(lost[state]):
                            ranks[state] = rank
                            found.append(state)
            fresh = found
        return ranks


class Comfort:
    """The game of a controller against the weather and the doors."""

    def __init__(self, air, choices, doors):
        check_lots(air, choices, doors)
        self.air = air
        self.choices = choices
        self.doors = doors
        self.game = Game(air, choices, doors)
        self.ranks = self.game.ranked()

    def states(self):
        """All states, ascending."""
        return [self.game.state(number) for number in range(self.game.many)]

    def rank(self, state):
        """Within how many ticks the world can bring the loss about, 0 if it cannot."""
        check_state(self, state)
        return self.ranks[self.game.number(state)]

    def free(self, state):
        """The choices behind which the bounds can be kept for ever."""
        check_state(self, state)
        return self.free_at(self.game.number(state))

    def free_at(self, number):
        return tuple([choice for choice in range(len(self.choices)) if self.is_free(number, choice)])

    def is_free(self, number, choice):
        return all([behind != OUT and self.ranks[behind] == 0 for _, _, behind in self.game.pairs(number, choice)])

    def answer(self, state, choice):
        """The least of the world's best pairs against a choice, None if the choice is free."""
        check_state(self, state)
        check_choice(self, choice)
        return self.answer_at(self.game.number(state), choice)

    def answer_at(self, number, choice):
        found = []
        for weather, door, behind in self.game.pairs(number, choice):
            if behind == OUT:
                found.append((0, weather, door))
            elif self.ranks[behind] > 0:
                found.append((self.ranks[behind], weather, door))
        return min(found)[1:] if found else None


def is_state(comfort, value):
    if not is_tuple(value, 2, 2) or type(value[0]) is not tuple:
        return False
    least, most, _, _ = comfort.air[5]
    rows = comfort.air[1]
    if len(value[0]) != len(rows) or not is_between(value[1], least, most):
        return False
    return all([is_between(degree, row[1], row[2]) for degree, row in zip(value[0], rows)])


def check_comfort(comfort):
    if not isinstance(comfort, Comfort):
        raise BadComfort("this is no comfort")


def check_state(comfort, state):
    if not is_state(comfort, state):
        raise BadState("this is no state")


def is_choice_number(comfort, value):
    return is_between(value, 0, len(comfort.choices) - 1)


def check_choice(comfort, choice):
    if not is_choice_number(comfort, choice):
        raise BadChoice("this is no number of a choice")


def paper_row(comfort, number):
    state, rank = comfort.game.state(number), comfort.ranks[number]
    if rank == 0:
        return (state, 0, comfort.free_at(number))
    return (state, rank, tuple([comfort.answer_at(number, choice) for choice in range(len(comfort.choices))]))


def comfort_paper(air, choices, doors):
    """A row for each state: the free choices of one at which the bounds can be kept, the answers of another one."""
    comfort = Comfort(air, choices, doors)
    return tuple([paper_row(comfort, number) for number in range(comfort.game.many)])


def is_world_pair(comfort, value):
    """Whether a value is a pair of wholes that can be one of the world's."""
    if not is_tuple(value, 2, 2) or not is_between(value[0], comfort.air[5][0], comfort.air[5][1]):
        return False
    return is_between(value[1], 0, len(comfort.doors) - 1)


def is_kept_row(comfort, ranks, number, lot):
    """Whether a lot tells the choices, one at least, behind which all next rows have 0."""
    if type(lot) is not tuple or len(lot) == 0 or not all([is_choice_number(comfort, choice) for choice in lot]):
        return False
    found = []
    for choice in range(len(comfort.choices)):
        if all([behind != OUT and ranks[behind] == 0 for _, _, behind in comfort.game.pairs(number, choice)]):
            found.append(choice)
    return list(lot) == found


def is_lost_row(comfort, ranks, number, rank, lot):
    """Whether a lot tells for each choice a pair by which the world comes out of bounds, or to a lesser row."""
    if not is_tuple(lot, len(comfort.choices), len(comfort.choices)):
        return False
    for choice, pair in enumerate(lot):
        if not is_world_pair(comfort, pair):
            return False
        behind = [there for weather, door, there in comfort.game.pairs(number, choice) if (weather, door) == pair]
        if not behind or (behind[0] != OUT and not 1 <= ranks[behind[0]] < rank):
            return False
    return True


def is_paper_row(comfort, number, row):
    """Whether a value is a row of a state, but for what stands behind its rank."""
    if not is_tuple(row, 3, 3) or not is_state(comfort, row[0]) or not is_from(row[1], 0):
        return False
    return row[0] == comfort.game.state(number)


def is_comfort_paper(air, choices, doors, value):
    """Whether a value is a paper that shows where the bounds can be kept."""
    comfort = Comfort(air, choices, doors)
    many = comfort.game.many
    if not is_tuple(value, many, many):
        return False
    if not all([is_paper_row(comfort, number, row) for number, row in enumerate(value)]):
        return False
    ranks = [row[1] for row in value]
    for number, (_, rank, lot) in enumerate(value):
        if rank == 0 and not is_kept_row(comfort, ranks, number, lot):
            return False
        if rank > 0 and not is_lost_row(comfort, ranks, number, rank, lot):
            return False
    return True


def asked(comfort, controller, memory, number):
    """What a controller returns at a question: (choice, memory)."""
    degrees, weather = comfort.game.state(number)
    told = controller(memory, degrees, weather)
    if not is_tuple(told, 2, 2) or not is_choice_number(comfort, told[0]) or not is_between(told[1], 0, 9):
        raise BadController("this is no pair of a choice and a memory")
    return told


def escape(comfort, state, controller):
    """The least row of the world's pairs that breaks the bounds against a controller, None if there is none."""
    check_comfort(comfort)
    check_state(comfort, state)
    met = [(0, comfort.game.number(state))]
    parents = {met[0]: None}
    lost = None
    at = 0
    while at < len(met):
        here = met[at]
        choice, memory = asked(comfort, controller, here[0], here[1])
        for weather, door, behind in comfort.game.pairs(here[1], choice):
            if behind == OUT:
                lost = (here, (weather, door)) if lost is None else lost
            elif (memory, behind) not in parents:
                parents[(memory, behind)] = (here, (weather, door))
                met.append((memory, behind))
        at += 1
    return None if lost is None else labels_to(parents, lost[0]) + [lost[1]]


def worst_spots(comfort, counts):
    """For each choice and spot the greatest count of the next states, with that choice made before."""
    found = []
    for choice, nexts in enumerate(comfort.game.nexts):
        found.append([0 if OUT in behind else max([counts[choice][there] for there in behind]) for behind in nexts])
    return found


def switch_counts(comfort, frees, counts):
    """For each choice made before and each state of rank 0 the least number of changes, by that of one tick less."""
    game = comfort.game
    worst = worst_spots(comfort, counts)
    found = [[0] * game.many for _ in comfort.choices]
    for number, free in enumerate(frees):
        spots = game.spots(number)
        later = [(choice, max([worst[choice][spot] for spot in spots])) for choice in free]
        for before in range(len(comfort.choices)):
            if later:
                found[before][number] = min([many + (1 if choice != before else 0) for choice, many in later])
    return found


def least_switches(comfort, state, before, ticks):
    """How often a controller that keeps the bounds for ever must change its choice in so many ticks, at most."""
    check_comfort(comfort)
    check_state(comfort, state)
    if before is not None:
        check_choice(comfort, before)
    if not is_between(ticks, 0, 12):
        raise BadTicks("this is no whole from 0 to 12")
    number = comfort.game.number(state)
    if comfort.ranks[number] > 0:
        return None
    frees = [comfort.free_at(one) if comfort.ranks[one] == 0 else () for one in range(comfort.game.many)]
    counts = [[0] * comfort.game.many for _ in comfort.choices]
    for _ in range(ticks):
        counts = switch_counts(comfort, frees, counts)
    # Without a choice before, the first one is none that changes.
    return min([row[number] for row in counts]) if before is None else counts[before][number]
