"""Companies: how far kinds of persons come by their rights together."""
from housekept.buildings import areas_of, check_area, check_building, check_kind, door_names, doors_of
from housekept.buildings import inner_areas, kinds_of, rights_of
from housekept.errors import BadCompany
from housekept.shapes import are_unlike, is_among, is_row, lots_below


def check_company(building, company):
    kinds = kinds_of(building)
    if not is_row(company) or not all([is_among(item, kinds) for item in company]) or not are_unlike(company):
        raise BadCompany("this is no list of unlike kinds")


def opened(building, company):
    """The pairs (area, area behind) of the doors' sides at which the company has a right."""
    names = door_names(building)
    pairs = []
    for kind, door, side in rights_of(building):
        if kind in company:
            row = doors_of(building)[names.index(door)]
            pairs.append((row[1 + side], row[2 - side]))
    return pairs


def reach_of(building, company, area):
    pairs = opened(building, company)
    reached = [area]
    at = 0
    while at < len(reached):
        for one, behind in pairs:
            if one == reached[at] and behind not in reached:
                reached.append(behind)
        at += 1
    return tuple([item for item in areas_of(building) if item in reached])


def company_reach(building, company, area):
    """The areas to which the rights of a company lead from an area."""
    check_building(building)
    check_company(building, company)
    check_area(building, area)
    return reach_of(building, company, area)


def helpers(building, kind, area):
    """The least companies with a kind that come from outside to an area."""
    check_building(building)
    check_kind(building, kind)
    check_area(building, area)
    kinds = kinds_of(building)
    outside = areas_of(building)[0]
    found = []
    for lot in lots_below(len(kinds)):
        company = tuple([kinds[at] for at in lot])
        lesser = any([all([item in company for item in one]) for one in found])
        if kind in company and not lesser and area in reach_of(building, company, outside):
            found.append(company)
    return found


def stranded(building, company):
    """The kinds of a company, and the areas out of which they do not come by their own rights."""
    check_building(building)
    check_company(building, company)
    outside = areas_of(building)[0]
    met = reach_of(building, company, outside)
    return [(kind, area) for kind in kinds_of(building) if kind in company for area in inner_areas(building)
            if area in met and outside not in reach_of(building, (kind,), area)]
