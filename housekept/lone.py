"""Lone alarms: how long one alarm can stay open while guards sleep."""
from housekept.alarms import check_watch, check_word, guards_shown, row_of
from housekept.errors import BadTicks
from housekept.shapes import is_between

TICKS = 40


def longest_kept(hand, guards, asleep):
    """Where an alarm stays shown: until one of those to whom it is shown cannot sleep on, or too many would have to."""
    waits = [hand * at + row[1] for at, row in enumerate(guards)]
    if asleep < len(guards):
        waits.append(hand * asleep)
    return min(waits)


def longest_passed(hand, guards, asleep):
    """Where an alarm is passed on: until it is shown to a guard who cannot sleep for so long; None if to none."""
    if asleep == 0:
        return 0
    if len(guards) == 1:
        return guards[0][1]
    waits = [hand * at + row[1] for at, row in enumerate(guards) if row[1] < hand]
    return waits[0] if waits else None


def longest(watch, word):
    """As lone_wait, of what is known to be right."""
    hand = row_of(watch, word)[2]
    if watch[5] == "pass":
        return longest_passed(hand, watch[2], watch[3])
    return longest_kept(hand, watch[2], watch[3])


def lone_wait(watch, word):
    """The longest wait of a lone alarm, None if it can be open for ever."""
    check_watch(watch)
    check_word(watch, word)
    return longest(watch, word)


def lone_sleepers(watch, word, ticks):
    """Who sleeps, tick by tick, so that a lone alarm stays open for so long; None if it cannot."""
    check_watch(watch)
    check_word(watch, word)
    if not is_between(ticks, 0, TICKS):
        raise BadTicks("this is no whole from 0 to 40")
    most = longest(watch, word)
    if most is not None and most < ticks:
        return None
    return [guards_shown(watch, word, age) for age in range(ticks)]
