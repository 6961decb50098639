"""Alarms, and the guards to whom they are shown."""
from housekept.buildings import is_name
from housekept.errors import BadAlarm, BadSleepers, BadStanding, BadTick, BadTicks, BadWatch, BadWords
from housekept.shapes import are_indexes, are_unlike, is_among, is_ascending, is_between, is_from, is_row, is_tuple


def is_alarm(value):
    if not is_tuple(value, 3, 3):
        return False
    return is_between(value[0], 0, 9) and is_between(value[1], 1, 3) and is_between(value[2], 1, 4)


def is_guard(value):
    return is_tuple(value, 2, 2) and is_name(value[0]) and is_between(value[1], 0, 4)


def is_watch(value):
    if not is_tuple(value, 6, 6) or value[0] != "watch":
        return False
    alarms, guards, asleep, busy, way = value[1:]
    if not is_tuple(alarms, 1, 3) or not all([is_alarm(row) for row in alarms]):
        return False
    if not is_tuple(guards, 1, 3) or not all([is_guard(row) for row in guards]):
        return False
    if not is_ascending([row[0] for row in alarms]) or not are_unlike([row[0] for row in guards]):
        return False
    return is_between(asleep, 0, len(guards)) and is_between(busy, 1, 3) and is_among(way, ("keep", "pass"))


def check_watch(watch):
    if not is_watch(watch):
        raise BadWatch("this is no watch")


def row_of(watch, word):
    """The row (word, rank, hand) of a word, None if it has none."""
    for row in watch[1]:
        if row[0] == word:
            return row
    return None


def is_word(watch, value):
    """Whether a value is a word with a row."""
    return is_between(value, 0, 9) and row_of(watch, value) is not None


def check_word(watch, word):
    if not is_word(watch, word):
        raise BadAlarm("this is no word with an alarm")


def guards_shown(watch, word, age):
    hand = row_of(watch, word)[2]
    many = len(watch[2])
    if watch[5] == "pass":
        return (age // hand % many,)
    return tuple(range(min(age // hand, many - 1) + 1))


def shown_to(watch, word, age):
    """The guards to whom an alarm of an age is shown."""
    check_watch(watch)
    check_word(watch, word)
    if not is_from(age, 0):
        raise BadTicks("this is no age")
    return guards_shown(watch, word, age)


def is_waiting(watch, value):
    """Whether a value is a pair of a word and an age."""
    return is_tuple(value, 2, 2) and is_word(watch, value[0]) and is_from(value[1], 0)


def is_watch_standing(watch, value):
    if not is_tuple(value, 2, 2) or type(value[0]) is not tuple or type(value[1]) is not tuple:
        return False
    waiting, guards = value
    if not all([is_waiting(watch, pair) for pair in waiting]) or not are_unlike([pair[0] for pair in waiting]):
        return False
    if len(guards) != len(watch[2]):
        return False
    return all([is_between(state, 1 - watch[4], row[1]) for state, row in zip(guards, watch[2])])


def check_watch_standing(watch, standing):
    if not is_watch_standing(watch, standing):
        raise BadStanding("this is no standing of the watch")


def are_words(value):
    return type(value) is tuple and are_indexes(value, 10)


def are_sleepers(watch, standing, value):
    """Whether a value is a tuple of guards who can sleep through the next tick."""
    if not is_tuple(value, 0, watch[3]) or not are_indexes(value, len(watch[2])):
        return False
    return all([is_between(standing[1][guard], 0, watch[2][guard][1] - 1) for guard in value])


def quiet(watch):
    """The standing at first."""
    return ((), (0,) * len(watch[2]))


def called(watch, waiting, words):
    """The alarms that are open when these words have come, and the words that are folded."""
    there = [word for word, _ in waiting]
    known = [word for word in words if row_of(watch, word) is not None]
    fresh = [(word, 0) for word in known if word not in there]
    return list(waiting) + fresh, [word for word in known if word in there]


def chosen(watch, waiting, guard):
    """The place of the alarm that a guard answers, None if none is shown: the first of the greatest rank."""
    best = None
    for at, (word, age) in enumerate(waiting):
        if guard in guards_shown(watch, word, age):
            if best is None or row_of(watch, word)[1] > row_of(watch, waiting[best][0])[1]:
                best = at
    return best


def answered(watch, waiting, guards, sleepers):
    """What stays open, and the answers, when the guards have looked in turn."""
    left = list(waiting)
    answers = []
    for guard, state in enumerate(guards):
        best = None if guard in sleepers or state < 0 else chosen(watch, left, guard)
        if best is not None:
            word, age = left[best]
            answers.append((word, guard, age))
            left = left[:best] + left[best + 1:]
    return left, answers


def guards_behind(watch, guards, sleepers, answers):
    busy = [guard for _, guard, _ in answers]
    states = []
    for guard, state in enumerate(guards):
        if guard in sleepers or state < 0:
            states.append(state + 1)
        else:
            states.append(1 - watch[4] if guard in busy else 0)
    return tuple(states)


def ticked(watch, standing, words, sleepers):
    """As watch_tick, of what is known to be right."""
    waiting, folded = called(watch, standing[0], words)
    left, answers = answered(watch, waiting, standing[1], sleepers)
    older = tuple([(word, age + 1) for word, age in left])
    return ((older, guards_behind(watch, standing[1], sleepers, answers)), answers, folded)


def watch_tick(watch, standing, words, sleepers):
    """The standing behind a tick, the answers (word, guard, wait), and the words that are folded."""
    check_watch(watch)
    check_watch_standing(watch, standing)
    if not are_words(words):
        raise BadWords("this is no ascending tuple of words")
    if not are_sleepers(watch, standing, sleepers):
        raise BadSleepers("these guards cannot sleep through the tick")
    return ticked(watch, standing, words, sleepers)


def is_tick(watch, standing, value):
    return is_tuple(value, 2, 2) and are_words(value[0]) and are_sleepers(watch, standing, value[1])


def watched(watch, ticks):
    """The answers and folded words tick by tick from quiet on, and the last standing."""
    check_watch(watch)
    if not is_row(ticks):
        raise BadTick(0)
    standing = quiet(watch)
    found = []
    for at, tick in enumerate(ticks):
        if not is_tick(watch, standing, tick):
            raise BadTick(at)
        standing, answers, folded = ticked(watch, standing, tick[0], tick[1])
        found.append((answers, folded))
    return (found, standing)


def shortened_age(watch, word, age):
    hand = row_of(watch, word)[2]
    many = len(watch[2])
    return min(age, (many - 1) * hand) if watch[5] == "keep" else age % (many * hand)


def cut(watch, standing):
    """As shortened, of what is known to be right."""
    waiting, guards = standing
    return (tuple([(word, shortened_age(watch, word, age)) for word, age in waiting]), guards)


def shortened(watch, standing):
    """The standing with ages cut to what still counts for whom alarms are shown to."""
    check_watch(watch)
    check_watch_standing(watch, standing)
    return cut(watch, standing)
