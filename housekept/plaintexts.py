"""Plain texts: doors that a right frees, and that a pass or a tick shuts."""
from housekept.buildings import check_building, door_names
from housekept.rules import check_text

RIGHT = ("right",)
ALWAYS = ("always",)


def plain_rules(door):
    return [(("card", door, "any", "any"), RIGHT, (("let", door, "free"),)),
            (("pass", door, "any"), ALWAYS, (("let", door, "shut"),)),
            (("tick",), ALWAYS, (("let", door, "shut"),))]


def plain_text(building):
    """The plain text of a building."""
    check_building(building)
    rules = [rule for door in door_names(building) for rule in plain_rules(door)]
    return ("text", building, (), (), (), tuple(rules))


def asks_right(condition):
    return condition == RIGHT or (condition[0] == "both" and condition[1] == RIGHT)


def is_strict_rule(doors, rule):
    """Whether a rule lets no door be free, or does so by its own card, and asks for the right first."""
    when, condition, deeds = rule
    freed = [deed[1] for deed in deeds if deed[0] == "let" and deed[1] in doors and deed[2] == "free"]
    return all([when[0] == "card" and when[1] == door and asks_right(condition) for door in freed])


def is_strict(text):
    """Whether a text frees doors by cards with rights alone."""
    scope = check_text(text)
    return all([is_strict_rule(scope.doors, rule) for rule in text[5]])
