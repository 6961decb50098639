"""Any silence: what a parted building keeps however late letters come, whatever falls silent, and whoever is there."""
from housekept.crowds import is_crowd_of
from housekept.errors import BadFalls, TooMany
from housekept.joined import joint_of
from housekept.machines import check_world
from housekept.panels import check_parting
from housekept.rolling import check_asked
from housekept.rules import check_text
from housekept.shapes import is_among, is_ascending, is_between, is_row, is_tuple
from housekept.silence import NET, Bad, System, is_begun, is_load_within

TABLES = 64


def check_silence(text, parting, world, falls):
    scope = check_text(text)
    check_parting(scope, parting)
    check_world(scope, world)
    if not is_between(falls, 0, 1):
        raise BadFalls("this is neither 0 nor 1")
    return scope


def controls(text, parting, world, falls):
    """The controls that are met if each line may read any letter that is ever sent on it."""
    check_silence(text, parting, world, falls)
    system = System(text, parting, world, falls)
    return tuple([system.plain(control) for control in system.walk.met])


def check_promised(text, parting, world, falls, question, needs):
    scope = check_silence(text, parting, world, falls)
    check_asked(scope, text[1], question, needs)
    return scope


def bad_of(text, parting, world, falls, question, needs):
    bad = Bad(System(text, parting, world, falls), question, needs)
    bad.close()
    return bad


def any_silence(text, parting, world, falls, question, needs):
    """The least households that can break a promise under any silence, and for all controls the least bad loads."""
    check_promised(text, parting, world, falls, question, needs)
    bad = bad_of(text, parting, world, falls, question, needs)
    return (bad.households(), tuple([tuple(sorted(lot)) for lot in bad.living]))


def is_letter(worths, names, value):
    """Whether a value is a letter of a line with these variables."""
    if not is_tuple(value, len(names), len(names)):
        return False
    return all([is_among(worth, worths[name]) for worth, name in zip(value, names)])


def is_load(system, value):
    lines = system.lines
    if not is_tuple(value, 2, 2) or not is_crowd_of(system.joint.whole[1], value[0]):
        return False
    if not is_tuple(value[1], len(lines), len(lines)) or not all([type(word) is tuple for word in value[1]]):
        return False
    scope = system.joint.panels[0].program.slots.scope
    worths = [scope.worths[name] for name in scope.worths]
    return all([is_letter(worths, line[2], letter) for line, word in zip(lines, value[1]) for letter in word])


def are_least_loads(system, value):
    """Whether a value is an ascending list of loads of which none is within another one."""
    if not is_row(value) or not all([is_load(system, load) for load in value]) or not is_ascending(value):
        return False
    return not any([at != place and is_load_within(one, other) for at, one in enumerate(value)
                    for place, other in enumerate(value)])


def is_closed(bad, value):
    """Whether what breaks the promise, and what leads to what has a load within, has a load within."""
    found = [(at, load) for at in bad.seeds for load in bad.seeds[at]]
    for at, lot in enumerate(value):
        for load in lot:
            found.extend(bad.sources.before(at, load))
    asked = {pair: True for pair in found}
    return all([any([is_load_within(less, load) for less in value[at]]) for at, load in asked])


def is_silence_table(text, parting, world, falls, question, needs, value):
    """Whether a value is a table of loads that shows that a promise holds under any silence."""
    check_promised(text, parting, world, falls, question, needs)
    system = System(text, parting, world, falls)
    if not is_row(value) or len(value) != len(system.walk.met):
        return False
    if not all([are_least_loads(system, lot) for lot in value]):
        return False
    if any([is_begun(crowd, words) for crowd, words in value[0]]):
        return False
    return is_closed(Bad(system, question, needs), value)


def other_safes(scope, lines, safes):
    """All safes that are other ones at the variables on lines alone, ascending; TooMany if there are too many."""
    worths = [scope.worths[name] for name in scope.worths]
    on_lines = {name: True for _, _, names in lines for name in names}
    found = [()]
    for name, safe in enumerate(safes):
        found = [row + (worth,) for row in found for worth in (worths[name] if name in on_lines else (safe,))]
        if len(found) > TABLES:
            raise TooMany(TABLES)
    return sorted(found)


def safe_tables(text, parting, world, falls, question, needs):
    """The safe values with which a promise holds for every household under any silence."""
    scope = check_promised(text, parting, world, falls, question, needs)
    lines = joint_of(text, parting, NET, world).lines
    found = []
    for safes in other_safes(scope, lines, parting[4]):
        bad = bad_of(text, parting[:4] + (safes,), world, falls, question, needs)
        if not any([is_begun(crowd, words) for crowd, words in bad.living[0]]):
            found.append(safes)
    return found
