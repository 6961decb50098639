"""What signals mean: round behind round, until nothing is told, or a beginning comes again."""
from housekept.buildings import is_name
from housekept.errors import BadNames, BadOrder, BadRow, TooLong
from housekept.rounds import Program, behind_deeds
from housekept.rules import begin, check_signal, check_standing, check_text, is_signal_of, is_text
from housekept.shapes import are_wholes, is_row

ROUNDS = 1000


def account_of(program, flat, signal):
    """The account of a signal at a flat standing, and the flat standing behind it."""
    slots = program.slots
    begun = program.alone(flat, signal)
    if begun is None:
        return (slots.deep(flat), [], (), [], False), flat
    right = program.is_right(signal)
    now, told = begun
    met = {}
    rounds, words, clashes = [], [], []
    while told:
        beginning = (now, tuple(told))
        if beginning in met:
            return (slots.deep(begun[0]), rounds, (), clashes, True), begun[0]
        if len(rounds) == ROUNDS:
            raise TooLong(ROUNDS)
        met[beginning] = True
        fired = program.firing(now, told, right)
        effect = program.effect(fired)
        rounds.append((told, fired))
        words.extend(effect.words)
        clashes.extend([(len(rounds), done, left, thing) for done, left, thing in effect.clashes])
        ahead = now
        now = behind_deeds(ahead, effect.deeds)
        told = program.changes(ahead, now)
    return (slots.deep(now), rounds, tuple(words), clashes, False), now


def meaning(text, standing, signal):
    """The account of a signal at a standing."""
    scope = check_text(text)
    check_standing(scope, standing)
    check_signal(scope, signal)
    program = Program(text)
    return account_of(program, program.slots.flat(standing), signal)[0]


def is_void(text, standing, signal):
    scope = check_text(text)
    check_standing(scope, standing)
    check_signal(scope, signal)
    program = Program(text)
    return program.alone(program.slots.flat(standing), signal) is None


def check_row(scope, row):
    if not is_row(row) or not all([is_signal_of(scope, signal) for signal in row]):
        raise BadRow("this is no list of signals of the text")


def accounts_along(text, standing, row):
    program = Program(text)
    flat = program.slots.flat(standing)
    accounts = []
    for signal in row:
        account, flat = account_of(program, flat, signal)
        accounts.append(account)
    return accounts


def run(text, standing, row):
    """The accounts along a row of signals."""
    scope = check_text(text)
    check_standing(scope, standing)
    check_row(scope, row)
    return accounts_along(text, standing, row)


def behind(text, row):
    """The standing behind a row from the beginning."""
    check_row(check_text(text), row)
    accounts = accounts_along(text, begin(text), row)
    return accounts[-1][0] if accounts else begin(text)


def with_rules(text, rules):
    return text[:5] + (tuple(rules),)


def reordered(text, order):
    """The text whose rules are the old ones in another order."""
    check_text(text)
    rules = text[5]
    many = len(rules)
    if type(order) is not tuple or not are_wholes(order, 0, many - 1) or sorted(order) != list(range(many)):
        raise BadOrder("this is no tuple of all indexes of rules")
    return with_rules(text, [rules[at] for at in order])


def renamed_rows(rows, names):
    return tuple([(names.get(name, name), worth) for name, worth in rows])


def renamed_second(row, names):
    """A when, condition or deed with another name behind its word."""
    return (row[0], names.get(row[1], row[1])) + row[2:]


def renamed_when(when, names):
    # Areas and kinds may be called as variables are: only these two tell own names.
    return renamed_second(when, names) if when[0] in ("becomes", "ran") else when


def renamed_condition(condition, names):
    if condition[0] in ("not", "both", "either"):
        return condition[:1] + tuple([renamed_condition(part, names) for part in condition[1:]])
    return renamed_second(condition, names) if len(condition) > 1 else condition


def renamed_deed(deed, names):
    return deed if deed[0] == "say" else renamed_second(deed, names)


def with_names(text, names):
    """The text with other names, which may be no text."""
    rules = [(renamed_when(when, names), renamed_condition(condition, names),
              tuple([renamed_deed(deed, names) for deed in deeds])) for when, condition, deeds in text[5]]
    parts = tuple([renamed_rows(text[part], names) for part in (2, 3, 4)])
    return with_rules(text[:2] + parts + text[5:], rules)


def renamed(text, names):
    """The text with other names of own variables, timers and counters."""
    check_text(text)
    own = [row[0] for part in (2, 3, 4) for row in text[part]]
    if type(names) is not dict or not all([old in own and is_name(names[old]) for old in names]):
        raise BadNames("this is no dict from own names to names")
    other = with_names(text, names)
    if not is_text(other):
        raise BadNames("with these names it is no text")
    return other
