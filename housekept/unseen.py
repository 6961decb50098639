"""Unseen weather: what a controller knows without a thermometer outside, and whether it keeps the bounds so."""
from housekept.air import check_air, check_degrees, is_setting_of, stepped_degrees
from housekept.comfort import Comfort, all_degrees, check_lots
from housekept.errors import BadDegrees, BadKnowledge, BadSetting, TooMany
from housekept.shapes import is_between, is_row, is_tuple
from housekept.weathers import check_plan, firsts_of

KNOWLEDGES = 2000
OUT = -1


def is_knowledge_of(air, value):
    rows = air[1]
    if not is_tuple(value, 3, 3) or not is_tuple(value[0], len(rows), len(rows)):
        return False
    if not all([is_between(degree, row[1], row[2]) for degree, row in zip(value[0], rows)]):
        return False
    least, most, _, _ = air[5]
    return is_between(value[1], least, most) and is_between(value[2], value[1], most)


def is_knowledge(air, value):
    """Whether a value tells degrees in bounds, and from where to where the weather can be."""
    check_air(air)
    return is_knowledge_of(air, value)


def check_knowledge(air, knowledge):
    if not is_knowledge_of(air, knowledge):
        raise BadKnowledge("this is no knowledge")


def next_weathers(air, low, high):
    """The weathers to which those from low to high can move."""
    least, most, _, move = air[5]
    return list(range(max(least, low - move), min(most, high + move) + 1))


def known_after(air, knowledge, setting, degrees):
    """The knowledge behind a tick in which these degrees come, None if they cannot, or are out of bounds."""
    check_air(air)
    check_knowledge(air, knowledge)
    if not is_setting_of(air, setting):
        raise BadSetting("this is no setting of the air")
    check_degrees(air, degrees)
    before, low, high = knowledge
    found = [weather for weather in next_weathers(air, low, high)
             if stepped_degrees(air, before, weather, setting) == degrees]
    behind = (degrees, found[0], found[-1]) if found else None
    return behind if is_knowledge_of(air, behind) else None


def are_rows_of_degrees(air, plan, value):
    many = len(air[1])
    if not is_row(value) or len(value) != len(plan):
        return False
    return all([is_tuple(row, many, many) and all([type(degree) is int for degree in row]) for row in value])


def weathers_that_fit(air, plan, rows):
    """The weathers that can be there when these degrees have been seen behind the ticks of a plan."""
    check_air(air)
    check_plan(air, plan)
    if not are_rows_of_degrees(air, plan, rows):
        raise BadDegrees("these are no degrees for each setting")
    before = firsts_of(air)
    fit = [air[5][2]]
    for setting, degrees in zip(plan, rows):
        behind = sorted(set([weather for one in fit for weather in next_weathers(air, one, one)]))
        fit = [weather for weather in behind if stepped_degrees(air, before, weather, setting) == degrees]
        before = degrees
    return fit


class Ranges:
    """The knowledges of an air, numbered: degrees first, then the range of the weather."""

    def __init__(self, air):
        least, most, _, _ = air[5]
        self.air = air
        self.ranges = [(low, high) for low in range(least, most + 1) for high in range(low, most + 1)]
        self.degrees = all_degrees(air)
        self.many = len(self.degrees) * len(self.ranges)
        if self.many > KNOWLEDGES:
            raise TooMany(KNOWLEDGES)
        self.places = {row: at for at, row in enumerate(self.degrees)}
        self.at_ranges = {pair: at for at, pair in enumerate(self.ranges)}

    def number(self, degrees, low, high):
        """The number of a knowledge, OUT if the degrees are out of bounds."""
        if degrees not in self.places:
            return OUT
        return self.places[degrees] * len(self.ranges) + self.at_ranges[(low, high)]

    def steps(self, degrees, setting):
        """For each weather the degrees behind a tick with it."""
        least, most, _, _ = self.air[5]
        return {weather: stepped_degrees(self.air, degrees, weather, setting) for weather in range(least, most + 1)}

    def nexts(self, steps, low, high):
        """The numbers of the knowledges behind a tick, each once; steps: of the degrees by weathers."""
        seen = {}
        for weather in next_weathers(self.air, low, high):
            seen.setdefault(steps[weather], []).append(weather)
        return [self.number(degrees, seen[degrees][0], seen[degrees][-1]) for degrees in seen]


class Guessing:
    """The game of a controller that does not see the weather: the next knowledges behind each choice."""

    def __init__(self, air, choices, doors):
        self.ranges = Ranges(air)
        self.choices = len(choices)
        # For each knowledge and choice the numbers of the knowledges to which the world can bring it.
        self.nexts = [[] for _ in range(self.ranges.many)]
        for at, degrees in enumerate(self.ranges.degrees):
            for on in choices:
                self.take(at, [self.ranges.steps(degrees, (on, free)) for free in doors])

    def take(self, at, rows):
        """Take in what can come of degrees by one choice: for each of the doors the degrees by weathers."""
        many = len(self.ranges.ranges)
        for place, (low, high) in enumerate(self.ranges.ranges):
            found = {}
            for steps in rows:
                for behind in self.ranges.nexts(steps, low, high):
                    found[behind] = True
            self.nexts[at * many + place].append(list(found))

    def ranked(self):
        """For each knowledge within how many ticks the world can win, 0 if never: it goes back from the loss."""
        sources = [[] for _ in range(self.ranges.many + 1)]
        for number, rows in enumerate(self.nexts):
            for choice, row in enumerate(rows):
                for behind in row:
                    sources[behind].append((number, choice))
        ranks = [0] * self.ranges.many
        lost = [[False] * self.choices for _ in range(self.ranges.many)]
        fresh = [OUT]
        rank = 0
        while fresh:
            rank += 1
            found = []
            for number, choice in [pair for behind in fresh for pair in sources[behind]]:
                lost[number][choice] = True
                if ranks[number] == 0 and all(lost[number]):
                    ranks[number] = rank
                    found.append(number)
            fresh = found
        return ranks


class Unseen:
    """The game of a controller against the weather, which it does not see, and the doors."""

    def __init__(self, air, choices, doors):
        check_lots(air, choices, doors)
        self.air = air
        self.choices = choices
        self.doors = doors
        self.game = Guessing(air, choices, doors)
        self.ranks = self.game.ranked()

    def number(self, knowledge):
        check_knowledge(self.air, knowledge)
        return self.game.ranges.number(knowledge[0], knowledge[1], knowledge[2])

    def rank(self, knowledge):
        """Within how many ticks the world can bring the loss about, 0 if it cannot."""
        return self.ranks[self.number(knowledge)]

    def free(self, knowledge):
        """The choices behind which the bounds can be kept for ever."""
        number = self.number(knowledge)
        return tuple([choice for choice, row in enumerate(self.game.nexts[number])
                      if all([behind != OUT and self.ranks[behind] == 0 for behind in row])])


def thermometer(air, choices, doors):
    """The least state from which the bounds can be kept by who sees the weather alone, None if there is none."""
    comfort = Comfort(air, choices, doors)
    unseen = Unseen(air, choices, doors)
    for state in comfort.states():
        degrees, weather = state
        if comfort.rank(state) == 0 and unseen.rank((degrees, weather, weather)) > 0:
            return state
    return None
