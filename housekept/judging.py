"""Judging texts: what holds at the standings of a machine, and what its rules do there."""
from housekept.errors import BadLot, BadQuestion
from housekept.least import check_looks, parting_row
from housekept.machines import Machine, check_machine, check_number, check_world, check_world_signal
from housekept.meaning import account_of, with_rules
from housekept.rounds import Program, test_of
from housekept.rules import DEEP, check_text, is_condition
from housekept.shapes import are_indexes, is_row, lots_below


def is_question(scope, value):
    return is_condition(scope, value, DEEP, True)


def check_question(scope, question):
    if not is_question(scope, question):
        raise BadQuestion("this is no question about the text")


def is_held(machine, at, question):
    """As holds, of what is known to be right."""
    test = test_of(machine.slots, question)
    return test(machine.flats[at], False)


def numbers_where(machine, question):
    """The standings at which a question holds, ascending."""
    test = test_of(machine.slots, question)
    return [at for at, flat in enumerate(machine.flats) if test(flat, False)]


def holds(machine, at, question):
    """Whether a question holds at a standing."""
    check_machine(machine)
    check_number(machine, at)
    check_question(machine.slots.scope, question)
    return is_held(machine, at, question)


def met(machine, question):
    """The least row behind which a question holds: standings are numbered by their least rows."""
    check_machine(machine)
    check_question(machine.slots.scope, question)
    numbers = numbers_where(machine, question)
    return machine.row_to(numbers[0]) if numbers else None


def always(machine, question):
    """Whether a question holds at all standings."""
    check_machine(machine)
    check_question(machine.slots.scope, question)
    return len(numbers_where(machine, question)) == len(machine)


def row_with(machine, at, place):
    """The least row to a standing, and a signal behind it."""
    return machine.row_to(at) + [machine.signals[place]]


def fires(machine):
    """For each rule that fires somewhere the least row whose last signal lets it fire."""
    check_machine(machine)
    rows = {}
    for rule in range(len(machine.text[5])):
        for marks, at, place in machine.firsts:
            if marks >> rule & 1:
                rows[rule] = row_with(machine, at, place)
    return rows


def clashes(machine):
    """For each pair (rule done, rule not done) that clashes somewhere the least row."""
    check_machine(machine)
    many = len(machine.text[5])
    rows = {}
    for pair in range(many * many):
        for marks, at, place in machine.firsts:
            if marks >> (many + pair) & 1:
                rows[(pair // many, pair % many)] = row_with(machine, at, place)
    return rows


def endless(machine):
    """The least row whose last signal is endless, None if there is none."""
    check_machine(machine)
    if machine.first_endless is None:
        return None
    at, place = machine.first_endless
    return row_with(machine, at, place)


def without_lot(text, lot):
    return with_rules(text, [rule for at, rule in enumerate(text[5]) if at not in lot])


def without(text, lot):
    """The text without some of its rules."""
    check_text(text)
    many = len(text[5])
    if not is_row(lot) or not are_indexes(lot, many) or len(lot) == many:
        raise BadLot("this is no ascending list of indexes of rules, not all")
    return without_lot(text, lot)


def can_go(text, world, looks, some):
    """The lots of some rules without which a text is alike."""
    scope = check_text(text)
    check_world(scope, world)
    check_looks(looks)
    many = len(text[5])
    if not is_row(some) or not are_indexes(some, many) or not 1 <= len(some) <= 6:
        raise BadLot("this is no ascending list of one to six indexes of rules")
    whole = Machine(text, world)
    found = []
    for places in lots_below(len(some))[1:]:
        lot = tuple([some[place] for place in places])
        if len(lot) < many and parting_row(whole, Machine(without_lot(text, lot), world), looks) is None:
            found.append(lot)
    return found


def first_clash(machine):
    """The place (standing, signal) of the first clash, None if there is none."""
    for marks, at, place in machine.firsts:
        if marks >> len(machine.text[5]):
            return (at, place)
    return None


def two_orders(machine):
    """A least row, and two orders of the rules with unlike accounts of its last signal.

    The rule that the first clash puts back stands at the head of the second order: it is done there.
    """
    check_machine(machine)
    found = first_clash(machine)
    if found is None:
        return None
    at, place = found
    account = account_of(Program(machine.text), machine.flats[at], machine.signals[place])[0]
    _, _, left, _ = account[3][0]
    order = list(range(len(machine.text[5])))
    other = [left] + [rule for rule in order if rule != left]
    return (row_with(machine, at, place), tuple(order), tuple(other))


def commute(machine, one, other):
    """None if two signals lead to one standing in either sequence, otherwise the least number where not."""
    check_machine(machine)
    check_world_signal(machine, one)
    check_world_signal(machine, other)
    first, second = machine.places[one], machine.places[other]
    for at, nexts in enumerate(machine.nexts):
        if machine.nexts[nexts[first]][second] != machine.nexts[nexts[second]][first]:
            return at
    return None
