"""Courses: persons who move along the moves of a web."""
from housekept.buildings import areas_of, check_building, kinds_of
from housekept.crowds import check_crowd
from housekept.errors import BadMove, BadMoves, BadPlace, BadWeb
from housekept.shapes import is_between, is_row
from housekept.webs import is_move, is_web


def is_of_building(building, move):
    """Whether a move names kinds and areas of the building alone."""
    _, need, there, _ = move
    if need is None:
        return True
    areas = areas_of(building)
    return need[0] in kinds_of(building) and need[1] in areas and there[1] in areas


def check_building_web(building, web):
    if not is_web(web) or not all([is_of_building(building, move) for moves in web[2] for move in moves]):
        raise BadWeb("this is no web of the building")


def check_place(web, place):
    if not is_between(place, 0, len(web[2]) - 1):
        raise BadPlace("this is no place of the web")


def with_more(building, crowd, spot, more):
    """The crowd with so many more at a pair (kind, area)."""
    at, place = kinds_of(building).index(spot[0]), areas_of(building).index(spot[1])
    row = crowd[at]
    row = row[:place] + (row[place] + more,) + row[place + 1:]
    return crowd[:at] + (row,) + crowd[at + 1:]


def number_at(building, crowd, spot):
    return crowd[kinds_of(building).index(spot[0])][areas_of(building).index(spot[1])]


def moved(building, crowd, move):
    """The crowd behind a move, None if nobody is there who is needed."""
    _, need, there, _ = move
    if need is None:
        return crowd
    if number_at(building, crowd, need) == 0:
        return None
    return with_more(building, with_more(building, crowd, need, -1), there, 1)


def moments_along(building, web, place, crowd, moves):
    """The moments along a list of moves, and how many of the moves lead on."""
    found = [(place, crowd)]
    for move in moves:
        # True is no whole: only what is a move in every part may be compared with the moves there.
        if not is_move(move) or move not in web[2][place]:
            return found
        crowd = moved(building, crowd, move)
        if crowd is None:
            return found
        place = move[3]
        found.append((place, crowd))
    return found


def led(building, web, place, crowd, moves):
    """The moments to which moves lead one after the other."""
    check_building(building)
    check_building_web(building, web)
    check_place(web, place)
    check_crowd(building, crowd)
    if not is_row(moves):
        raise BadMoves(0)
    found = moments_along(building, web, place, crowd, moves)
    if len(found) <= len(moves):
        raise BadMoves(len(found) - 1)
    return found


def ahead_of(building, move, crowd):
    """As ahead, of what is known to be right."""
    _, need, there, _ = move
    if need is None:
        return crowd
    if number_at(building, crowd, there) > 0:
        crowd = with_more(building, crowd, there, -1)
    return with_more(building, crowd, need, 1)


def ahead(building, move, crowd):
    """The least crowd from which a move leads to one with this crowd within it."""
    check_building(building)
    if not is_move(move) or not is_of_building(building, move):
        raise BadMove("this is no move of the building")
    check_crowd(building, crowd)
    return ahead_of(building, move, crowd)
