"""Texts that drive a lift, and where the lift then is."""
from housekept.errors import BadFire, BadText
from housekept.lifts import check_floors, check_stay
from housekept.rules import check_standing, check_text

FLOORS = ("ground", "first", "second", "third")
LETTERS = "abcd"
UP = ("least", "up", 1)
BURNS = ("is", "fire", "yes")
LATER = ("tick",)
ALWAYS = ("always",)


def joined_by(word, conditions):
    """One condition of several ones, the first half being the greater one."""
    if len(conditions) == 1:
        return conditions[0]
    half = (len(conditions) + 1) // 2
    return (word, joined_by(word, conditions[:half]), joined_by(word, conditions[half:]))


def all_of(conditions):
    return joined_by("both", conditions)


def any_of(conditions):
    return joined_by("either", conditions)


def door_of(floor):
    return "l" + LETTERS[floor]


def call_of(floor):
    return "call" + LETTERS[floor]


def lit(floor):
    return ("is", call_of(floor), "lit")


def dark(floor):
    return ("is", call_of(floor), "dark")


def building_of(floors, fire):
    areas = ("out",) + FLOORS[:floors] + ("cabin",)
    doors = [(door_of(floor), FLOORS[floor], "cabin", "leaf") for floor in range(floors)]
    doors.append(("main", "out", "ground", "gate"))
    if fire:
        doors.extend([("s" + LETTERS[floor], FLOORS[floor], FLOORS[floor + 1], "leaf") for floor in range(floors - 1)])
    return ("building", areas, tuple(doors), ("guest",), (("guest", "main", 0), ("guest", "main", 1)))


class Cases:
    """What the rules at a tick ask."""

    def __init__(self, floors, fire):
        self.floors = floors
        idle = [("not", ("running", "run"))]
        self.idle = idle + [("is", "fire", "no")] if fire else idle

    def there(self, floor):
        found = [("least", "at", floor)] if floor > 0 else []
        return found + [("not", ("least", "at", floor + 1))] if floor < self.floors - 1 else found

    def here(self, floor):
        """That the cabin is idle at a floor that is dark."""
        return self.idle + self.there(floor) + [dark(floor)]

    def above(self, floor):
        return list(range(floor + 1, self.floors))

    def below(self, floor):
        return list(range(floor))

    def called(self, floor):
        return all_of(self.idle + self.there(floor) + [lit(floor)])

    def goes_up(self, floor):
        return all_of(self.here(floor) + [UP, any_of([lit(one) for one in self.above(floor)])])

    def goes_down(self, floor):
        return all_of(self.here(floor) + [("not", UP), any_of([lit(one) for one in self.below(floor)])])

    def turns_down(self, floor):
        darks = [dark(one) for one in self.above(floor)]
        return all_of(self.here(floor) + [UP] + darks + [any_of([lit(one) for one in self.below(floor)])])

    def turns_up(self, floor):
        darks = [dark(one) for one in self.below(floor)]
        return all_of(self.here(floor) + [("not", UP)] + darks + [any_of([lit(one) for one in self.above(floor)])])


def lets_all(names, worth):
    return tuple([("let", name, worth) for name in names])


def lift_rules(floors, stay, fire):
    """The rules that answer calls."""
    cases = Cases(floors, fire)
    every = list(range(floors))
    lower, upper = every[:-1], every[1:]
    found = [(("button", one), ("is", door_of(one), "shut"), (("let", call_of(one), "lit"),)) for one in every]
    found.append((("ran", "run"), ALWAYS, lets_all([door_of(one) for one in every], "shut")))
    found.extend([(LATER, cases.called(one), (("let", call_of(one), "dark"), ("let", door_of(one), "free"),
                                             ("start", "run", stay))) for one in every])
    found.extend([(LATER, cases.goes_up(one), (("more", "at"),)) for one in lower])
    found.extend([(LATER, cases.goes_down(one), (("less", "at"),)) for one in upper])
    found.extend([(LATER, cases.turns_down(one), (("less", "at"), ("less", "up"))) for one in upper])
    found.extend([(LATER, cases.turns_up(one), (("more", "at"), ("more", "up"))) for one in lower])
    found.append((("card", "main", "any", "any"), ("right",), (("let", "main", "free"),)))
    return found


def fire_rules(floors, stay):
    """The rules that bring the cabin down, and open the ways out, while there is fire."""
    area = FLOORS[floors - 1]
    idle = ("not", ("running", "run"))
    lowest = ("not", ("least", "at", 1))
    ways = ["main"] + ["s" + LETTERS[floor] for floor in range(floors - 1)]
    over = all_of([BURNS, ("is", "smoke:" + area, "no"), ("is", "la", "free")])
    return [(("smoke", area, "yes"), ALWAYS, (("let", "fire", "yes"),)),
            (LATER, all_of([idle, BURNS, ("least", "at", 1)]), (("less", "at"), ("less", "up"))),
            (LATER, all_of([idle, BURNS, lowest, ("is", "la", "shut")]),
             (("let", "calla", "dark"), ("let", "la", "free"))),
            (("becomes", "fire", "yes"), ALWAYS, lets_all(ways, "free")),
            (("becomes", "fire", "no"), ALWAYS, lets_all(ways, "shut")),
            (("pass", "main", "any"), BURNS, (("let", "main", "free"),)),
            (("button", 5), over, (("let", "fire", "no"), ("start", "run", stay)))]


def text_for(floors, stay, fire):
    """As lift_text, of what is known to be right."""
    names = [(call_of(floor), ("dark", "lit")) for floor in range(floors)]
    rules = lift_rules(floors, stay, fire)
    if fire:
        names.append(("fire", ("no", "yes")))
        rules = rules + fire_rules(floors, stay)
    counters = (("at", floors - 1), ("up", 1))
    return ("text", building_of(floors, fire), tuple(names), (("run", stay),), counters, tuple(rules))


def check_driven(floors, stay, fire):
    check_floors(floors, 4)
    check_stay(stay, 6)
    if fire is not False and (fire is not True or floors == 4):
        raise BadFire("this is neither False, nor True for 2 or 3 floors")


def lift_text(floors, stay, fire):
    """The text that drives the collective rule."""
    check_driven(floors, stay, fire)
    return text_for(floors, stay, fire)


def lift_world(floors, stay, fire):
    """The world with the buttons of the floors; with fire, smoke at the last floor and the button 5, too."""
    check_driven(floors, stay, fire)
    smokes = (FLOORS[floors - 1],) if fire else ()
    buttons = tuple(range(floors))
    return ("world", smokes, buttons + (5,) if fire else buttons, (), 0)


def is_lift_text(text):
    floors = len(text[1][1]) - 2
    if not 2 <= floors <= 4 or len(text[3]) != 1 or text[3][0][1] > 6:
        return False
    return any([text == text_for(floors, text[3][0][1], fire) for fire in (False, True) if floors < 4 or not fire])


def lift_of(text, standing):
    """The standing of the lift at a standing of its text."""
    scope = check_text(text)
    if not is_lift_text(text):
        raise BadText(None)
    check_standing(scope, standing)
    names = list(scope.worths)
    floors = len(text[1][1]) - 2
    lamps = [floor for floor in range(floors) if standing[0][names.index(call_of(floor))] == "lit"]
    return (standing[2][0], standing[2][1], standing[1][0] or 0, tuple(lamps))
