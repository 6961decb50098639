"""Twins: kinds of persons that the moves of a web do not tell apart."""
from housekept.buildings import check_building, kinds_of
from housekept.courses import check_building_web
from housekept.crowds import check_household


def triples_of(web, kind):
    """For each place what its moves that need a kind do: (area of need, area of there, next place)."""
    found = []
    for moves in web[2]:
        found.append(sorted(set([(need[1], there[1], behind) for _, need, there, behind in moves
                                 if need is not None and need[0] == kind])))
    return found


def twin_classes(building, web):
    """As twins, of what is known to be right."""
    classes = []
    known = []
    for kind in kinds_of(building):
        triples = triples_of(web, kind)
        if triples in known:
            at = known.index(triples)
            classes[at] = classes[at] + (kind,)
        else:
            known.append(triples)
            classes.append((kind,))
    return classes


def check_twins(building, web):
    check_building(building)
    check_building_web(building, web)


def twins(building, web):
    """The classes of kinds whose moves do the same."""
    check_twins(building, web)
    return twin_classes(building, web)


def merged(building, web):
    """The web without the moves that need a kind which is not the first one of its class."""
    check_twins(building, web)
    firsts = [lot[0] for lot in twin_classes(building, web)]
    moves = [tuple([move for move in row if move[1] is None or move[1][0] in firsts]) for row in web[2]]
    return (web[0], web[1], tuple(moves))


def merged_household(building, web, household):
    """The household in which all persons of a class are of its first kind."""
    check_twins(building, web)
    check_household(building, household)
    kinds = kinds_of(building)
    numbers = {lot[0]: sum([household[kinds.index(kind)] for kind in lot]) for lot in twin_classes(building, web)}
    return tuple([numbers.get(kind, 0) for kind in kinds])
