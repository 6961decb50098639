"""Webs: places, and moves between them, some of which need a person somewhere."""
from housekept.buildings import door_names, doors_of, is_name, kinds_of
from housekept.errors import BadLabels, BadWeb
from housekept.machines import check_machine
from housekept.shapes import are_indexes, are_unlike, is_row, is_tuple

PLACES = 20000


def is_label(value):
    """Whether a value is a tuple of strings and wholes, with a string ahead."""
    if type(value) is not tuple or len(value) == 0 or type(value[0]) is not str:
        return False
    return all([type(part) is str or type(part) is int for part in value])


def is_spot(value):
    """Whether a value is a pair of names: of a kind and of an area."""
    return is_tuple(value, 2, 2) and is_name(value[0]) and is_name(value[1])


def is_move(value):
    """Whether a value is a move, to whatever place."""
    if not is_tuple(value, 4, 4) or not is_label(value[0]) or type(value[3]) is not int or value[3] < 0:
        return False
    need, there = value[1], value[2]
    if need is None:
        return there is None
    return is_spot(need) and is_spot(there) and need[0] == there[0]


def are_moves(value, many):
    """Whether a value is a tuple of unlike moves to the first so many places."""
    if type(value) is not tuple or not all([is_move(move) and move[3] < many for move in value]):
        return False
    return are_unlike(value)


def is_web(value):
    if not is_tuple(value, 3, 3) or value[0] != "web" or not is_tuple(value[2], 1, PLACES):
        return False
    many = len(value[2])
    if type(value[1]) is not tuple or len(value[1]) == 0 or not are_indexes(value[1], many):
        return False
    return all([are_moves(moves, many) for moves in value[2]])


def check_web(web):
    if not is_web(web):
        raise BadWeb("this is no web")


def person_moves(building):
    """Shows and goes in order: (label, need, there, signal, the door that must stand free or None)."""
    sides = [(kind, door, side) for kind in kinds_of(building) for door in doors_of(building) for side in (0, 1)]
    rows = [(("show", kind, door[0], side), (kind, door[1 + side]), (kind, door[1 + side]),
             ("card", door[0], side, kind), None) for kind, door, side in sides]
    rows.extend([(("go", kind, door[0], side), (kind, door[1 + side]), (kind, door[2 - side]),
                  ("pass", door[0], side), door[0]) for kind, door, side in sides])
    return rows


def moves_of(building, signals, nexts, doors, first):
    """For each standing the tuple of its moves.

    nexts: the standings behind all signals; doors: how the doors stand; first: the place of standing 0.
    """
    places = {signal: at for at, signal in enumerate(signals)}
    names = door_names(building)
    persons = [(None if door is None else names.index(door), label, need, there, places[signal])
               for label, need, there, signal, door in person_moves(building)]
    others = [(signal, places[signal]) for signal in signals if signal[0] not in ("card", "pass")]
    found = []
    for behind, standing in zip(nexts, doors):
        here = [(label, need, there, first + behind[place]) for door, label, need, there, place in persons
                if door is None or standing[door] == "free"]
        here.extend([(signal, None, None, first + behind[place]) for signal, place in others])
        found.append(tuple(here))
    return found


def web_of(machine):
    """The web of a machine's persons."""
    check_machine(machine)
    return ("web", (0,), tuple(moves_of(machine.text[1], machine.signals, machine.nexts, machine.doors, 0)))


def leading(web):
    """For each label a dict from places to the places to which moves with it lead from there."""
    found = {}
    for place, moves in enumerate(web[2]):
        for label, _, _, behind in moves:
            if label not in found:
                found[label] = {}
            found[label].setdefault(place, []).append(behind)
    return found


def places_of(web, row):
    """The places to which a row of labels can lead, whoever is where."""
    check_web(web)
    if not is_row(row):
        raise BadLabels(None)
    found = leading(web)
    places = list(web[1])
    for at, label in enumerate(row):
        going = found[label] if is_label(label) and label in found else {}
        places = sorted(set([behind for place in places for behind in going.get(place, [])]))
        if not places:
            raise BadLabels(at)
    return tuple(places)
