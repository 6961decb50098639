"""Webs: places, and moves between them, some of which need a person somewhere."""
from housekept.buildings import doors_of, is_name, kinds_of, side_area
from housekept.errors import BadLabels, BadWeb
from housekept.machines import check_machine
from housekept.shapes import are_indexes, are_unlike, is_row, is_tuple

PLACES = 20000


def is_label(value):
    """Whether a value is a tuple of strings and wholes, with a string ahead."""
    if type(value) is not tuple or len(value) == 0 or type(value[0]) is not str:
        return False
    return all([type(part) is str or type(part) is int for part in value])


def is_spot(value):
    """Whether a value is a pair of names: of a kind and of an area."""
    return is_tuple(value, 2, 2) and is_name(value[0]) and is_name(value[1])


def is_move(value):
    """Whether a value is a move, to whatever place."""
    if not is_tuple(value, 4, 4) or not is_label(value[0]) or type(value[3]) is not int or value[3] < 0:
        return False
    need, there = value[1], value[2]
    if need is None:
        return there is None
    return is_spot(need) and is_spot(there) and need[0] == there[0]


def are_moves(value, many):
    """Whether a value is a tuple of unlike moves to the first so many places."""
    if type(value) is not tuple or not all([is_move(move) and move[3] < many for move in value]):
        return False
    return are_unlike(value)


def is_web(value):
    if not is_tuple(value, 3, 3) or value[0] != "web" or not is_tuple(value[2], 1, PLACES):
        return False
    many = len(value[2])
    if type(value[1]) is not tuple or len(value[1]) == 0 or not are_indexes(value[1], many):
        return False
    return all([are_moves(moves, many) for moves in value[2]])


def check_web(web):
    if not is_web(web):
        raise BadWeb("this is no web")


def passages(building):
    """For each kind and each side of a door: (kind, door, side, the spot here, the spot behind)."""
    rows = []
    for kind in kinds_of(building):
        for door in doors_of(building):
            for side in (0, 1):
                here, behind = side_area(building, door[0], side), side_area(building, door[0], 1 - side)
                rows.append((kind, door[0], side, (kind, here), (kind, behind)))
    return rows


def show_moves(machine, rows):
    """The moves by cards, alike at all standings but for where they lead: (label, need, there, signal's place)."""
    return [(("show", kind, door, side), here, here, machine.places[("card", door, side, kind)])
            for kind, door, side, here, _ in rows]


def go_moves(machine, rows):
    """The same of the moves through doors, with the door's place in front."""
    names = machine.slots.doors
    return [(names.index(door), ("go", kind, door, side), here, behind, machine.places[("pass", door, side)])
            for kind, door, side, here, behind in rows]


def web_of(machine):
    """The web of a machine's persons."""
    check_machine(machine)
    rows = passages(machine.text[1])
    shows, goes = show_moves(machine, rows), go_moves(machine, rows)
    others = [(signal, machine.places[signal]) for signal in machine.signals if signal[0] not in ("card", "pass")]
    moves = []
    for nexts, doors in zip(machine.nexts, machine.doors):
        here = [(label, need, there, nexts[place]) for label, need, there, place in shows]
        here.extend([(label, need, there, nexts[place]) for door, label, need, there, place in goes
                     if doors[door] == "free"])
        here.extend([(signal, None, None, nexts[place]) for signal, place in others])
        moves.append(tuple(here))
    return ("web", (0,), tuple(moves))


def leading(web):
    """For each label a dict from places to the places to which moves with it lead from there."""
    found = {}
    for place, moves in enumerate(web[2]):
        for label, _, _, behind in moves:
            if label not in found:
                found[label] = {}
            found[label].setdefault(place, []).append(behind)
    return found


def places_of(web, row):
    """The places to which a row of labels can lead, whoever is where."""
    check_web(web)
    if not is_row(row):
        raise BadLabels(None)
    found = leading(web)
    places = list(web[1])
    for at, label in enumerate(row):
        going = found[label] if is_label(label) and label in found else {}
        places = sorted(set([behind for place in places for behind in going.get(place, [])]))
        if not places:
            raise BadLabels(at)
    return tuple(places)
