"""Promises that there are never so many persons somewhere, and the loads by which they are broken."""
from housekept.buildings import areas_of, check_building, kinds_of
from housekept.courses import check_building_web, check_place
from housekept.crowds import Packing, check_crowd, is_crowd_of, is_kind_or_any, least_of, lies_within, number_there
from housekept.errors import BadLoads, BadMost, BadPromise, TooMany
from housekept.judging import check_question, numbers_where
from housekept.machines import check_machine
from housekept.shapes import are_indexes, is_among, is_between, is_tuple

MOST = 20000


def are_loads(building, web, value):
    many = len(web[2])
    if not is_tuple(value, many, many) or not all([type(crowds) is tuple for crowds in value]):
        return False
    return all([is_crowd_of(building, crowd) for crowds in value for crowd in crowds])


def check_loads(building, web, loads):
    if not are_loads(building, web, loads):
        raise BadLoads("these are no loads of the web")


def is_need(building, value):
    if not is_tuple(value, 3, 3) or not is_kind_or_any(building, value[0]):
        return False
    return is_among(value[1], areas_of(building)) and is_between(value[2], 1, 3)


def are_needs(building, value):
    return is_tuple(value, 0, 2) and all([is_need(building, need) for need in value])


def is_promise_of(building, web, value):
    if not is_tuple(value, 3, 3) or value[0] != "never" or type(value[1]) is not tuple:
        return False
    return are_indexes(value[1], len(web[2])) and are_needs(building, value[2])


def check_promise(building, web, promise):
    if not is_promise_of(building, web, promise):
        raise BadPromise("this is no promise of the web")


def check_most(most):
    if not is_between(most, 1, MOST):
        raise BadMost("this is no whole from 1 to 20000")


def is_promise(building, web, value):
    check_building(building)
    check_building_web(building, web)
    return is_promise_of(building, web, value)


def are_filled(building, needs, crowd):
    """Whether a crowd fills all needs; one person can count for two."""
    return all([number_there(building, crowd, kind, area) >= many for kind, area, many in needs])


def is_broken(building, web, promise, place, crowd):
    """Whether a promise is broken at a moment."""
    check_building(building)
    check_building_web(building, web)
    check_promise(building, web, promise)
    check_place(web, place)
    check_crowd(building, crowd)
    return place in promise[1] and are_filled(building, promise[2], crowd)


def are_met(building, web, loads, place, crowd):
    """Whether loads are met at a moment."""
    check_building(building)
    check_building_web(building, web)
    check_loads(building, web, loads)
    check_place(web, place)
    check_crowd(building, crowd)
    return any([lies_within(load, crowd) for load in loads[place]])


def places_where(machine, question):
    """The standings at which a question holds."""
    check_machine(machine)
    check_question(machine.slots.scope, question)
    return tuple(numbers_where(machine, question))


def rows_of_sum(many, total):
    """All rows of so many numbers with a sum."""
    if many == 1:
        return [(total,)]
    return [(first,) + rest for first in range(total + 1) for rest in rows_of_sum(many - 1, total - first)]


def least_filling(building, need):
    """The least crowds that fill one need."""
    kind, area, many = need
    kinds, areas = kinds_of(building), areas_of(building)
    if kind == "any":
        columns = rows_of_sum(len(kinds), many)
    else:
        columns = [tuple([many if one == kind else 0 for one in kinds])]
    return [tuple([tuple([number if one == area else 0 for one in areas]) for number in column]) for column in columns]


def joined_crowd(one, other):
    """The least crowd within which two crowds lie."""
    return tuple([tuple([max(pair) for pair in zip(row, beside)]) for row, beside in zip(one, other)])


def crowds_filling(building, needs):
    """The least crowds that fill all needs, ascending."""
    found = [tuple([(0,) * len(areas_of(building)) for _ in kinds_of(building)])]
    for need in needs:
        found = [joined_crowd(crowd, more) for crowd in found for more in least_filling(building, need)]
    return least_of(building, found)


def loads_where(building, web, promise):
    """As loads_of, of what is known to be right."""
    found = tuple(crowds_filling(building, promise[2]))
    where = {place: True for place in promise[1]}
    return tuple([found if place in where else () for place in range(len(web[2]))])


def loads_of(building, web, promise):
    """The loads that are met exactly where a promise is broken."""
    check_building(building)
    check_building_web(building, web)
    check_promise(building, web, promise)
    return loads_where(building, web, promise)


class Search:
    """The moments that are met from one on, crowds packed as wholes."""

    def __init__(self, building, web, loads, crowd):
        total = sum([number for row in crowd for number in row])
        self.packing = Packing(building, total)
        self.web = web
        self.loads = loads
        self.steps = {}
        self.goals = {}

    def steps_at(self, place):
        """What moves of a place do: (number of the move, shift of who is needed, what is added, next place)."""
        if place not in self.steps:
            seen = {}
            rows = []
            for at, (_, need, there, behind) in enumerate(self.web[2][place]):
                shift = None if need is None else self.packing.shifts[need]
                more = 0 if need is None else (1 << self.packing.shifts[there]) - (1 << shift)
                # What leads to the same as a move ahead of it, or nowhere, meets no new moment.
                if (more, behind) != (0, place) and (shift, more, behind) not in seen:
                    seen[(shift, more, behind)] = True
                    rows.append((at, shift, more, behind))
            self.steps[place] = rows
        return self.steps[place]

    def is_goal(self, place, whole):
        if place not in self.goals:
            self.goals[place] = [self.packing.packed(load) for load in self.loads[place]]
        guards = self.packing.guards
        return any([((whole | guards) - load) & guards == guards for load in self.goals[place]])

    def moments_to_goal(self, place, crowd, most):
        """The moments as they are met, each with the number of its parent and the move, up to one that is a goal.

        None if there is none.
        """
        field = self.packing.field
        moments = [(place, self.packing.packed(crowd), None, None)]
        seen = {(place, moments[0][1]): True}
        if self.is_goal(place, moments[0][1]):
            return moments
        at = 0
        while at < len(moments):
            here, whole, _, _ = moments[at]
            for number, shift, more, behind in self.steps_at(here):
                if (shift is None or whole >> shift & field) and (behind, whole + more) not in seen:
                    if len(moments) == most:
                        raise TooMany(most)
                    seen[(behind, whole + more)] = True
                    moments.append((behind, whole + more, at, number))
                    if self.is_goal(behind, whole + more):
                        return moments
            at += 1
        return None


def brute(building, web, loads, place, crowd, most):
    """The least list of moves to a moment at which the loads are met, found by trying all."""
    check_building(building)
    check_building_web(building, web)
    check_loads(building, web, loads)
    check_place(web, place)
    check_crowd(building, crowd)
    check_most(most)
    moments = Search(building, web, loads, crowd).moments_to_goal(place, crowd, most)
    if moments is None:
        return None
    moves = []
    _, _, parent, number = moments[-1]
    while parent is not None:
        moves.append(web[2][moments[parent][0]][number])
        _, _, parent, number = moments[parent]
    return moves[::-1]
