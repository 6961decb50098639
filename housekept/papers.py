"""Papers: least crowds for each place that show, move by move, that loads are never met."""
from housekept.buildings import check_building
from housekept.courses import check_building_web
from housekept.crowds import Lowest, Packing, check_household, greatest_number, is_crowd_of, outside_crowd, totals_of
from housekept.errors import BadPaper
from housekept.promises import check_loads
from housekept.shapes import is_ascending, is_tuple
from housekept.tables import Rounds, sources_of

SPARE = 2


def are_papers_crowds(building, value):
    """Whether a value is an ascending tuple of crowds."""
    if type(value) is not tuple or not all([is_crowd_of(building, crowd) for crowd in value]):
        return False
    return is_ascending(value)


class Sheets:
    """The crowds of a paper, packed, place by place."""

    def __init__(self, building, web, loads, paper):
        greatest = greatest_number([crowd for crowds in loads + paper for crowd in crowds])
        self.packing = Packing(building, greatest)
        # What leads back along moves is worked out as for a table.
        self.rounds = Rounds(sources_of(web[2]), self.packing, SPARE)
        self.lowest = {}
        self.rows = [[(self.packing.packed(crowd), totals_of(crowd)) for crowd in crowds] for crowds in paper]

    def take_in(self):
        """Whether at each place no crowd is within another one."""
        for place, row in enumerate(self.rows):
            lowest = Lowest(self.packing.guards)
            self.lowest[place] = lowest
            for _, whole, totals in sorted([(sum(totals), whole, totals) for whole, totals in row]):
                if lowest.lies_above(whole, totals):
                    return False
                lowest.put(whole, totals)
        return True

    def has_within(self, place, whole, totals):
        lowest = self.lowest[place]
        return lowest.lies_above(whole, totals)

    def has_loads(self, loads):
        """Whether each load of a place has one of its crowds within it."""
        return all([self.has_within(place, self.packing.packed(crowd), totals_of(crowd))
                    for place, crowds in enumerate(loads) for crowd in crowds])

    def is_closed(self):
        """Whether what leads by a move to what has one of the crowds within it has one within it, too."""
        for place, row in enumerate(self.rows):
            found = self.rounds.before([(place, whole, totals) for whole, totals in row])
            for source in found:
                met = found[source]
                if not all([self.has_within(source, whole, met[whole]) for whole in met]):
                    return False
        return True


def is_paper_of(building, web, loads, value):
    """As is_paper, of what else is known to be right."""
    many = len(web[2])
    if not is_tuple(value, many, many) or not all([are_papers_crowds(building, crowds) for crowds in value]):
        return False
    sheets = Sheets(building, web, loads, value)
    return sheets.take_in() and sheets.has_loads(loads) and sheets.is_closed()


def check_papers(building, web, loads):
    check_building(building)
    check_building_web(building, web)
    check_loads(building, web, loads)


def is_paper(building, web, loads, value):
    """Whether a value is a paper: it has all loads, and all that leads to what it has."""
    check_papers(building, web, loads)
    return is_paper_of(building, web, loads, value)


def keeps(building, web, loads, paper, household):
    """Whether a paper shows that a household never meets the loads."""
    check_papers(building, web, loads)
    if not is_paper_of(building, web, loads, paper):
        raise BadPaper("this is no paper")
    check_household(building, household)
    crowd = outside_crowd(building, household)
    sheets = Sheets(building, web, loads, paper)
    sheets.take_in()
    whole, totals = sheets.packing.packed(crowd), totals_of(crowd)
    return not any([sheets.has_within(begin, whole, totals) for begin in web[1]])
