"""Letters that come late, doubled, turned or never, and how far they let somebody read."""
from housekept.errors import BadLetters, BadNet, BadPatience, BadPointers
from housekept.shapes import are_wholes, is_between, is_row, is_tuple

TICKS = 400


def is_letters(value):
    """Whether a value is a course of letters: those that come at tick t have numbers below t."""
    if not is_row(value) or len(value) > TICKS:
        return False
    return all([type(came) is tuple and are_wholes(came, 0, at) for at, came in enumerate(value)])


def check_letters(letters):
    if not is_letters(letters):
        raise BadLetters("this is no course of letters")


def is_net(value):
    if not is_tuple(value, 3, 3) or value[0] != "net" or not is_between(value[1], 0, 3):
        return False
    return value[2] is None or is_between(value[2], 0, 3)


def check_net(net):
    if not is_net(net):
        raise BadNet("this is no net")


def greatest_so_far(letters):
    """The greatest numbers that have come, tick by tick; the letter 0 is there at first."""
    found = []
    best = 0
    for came in letters:
        best = max([best] + list(came))
        found.append(best)
    return found


def heard(letters, patience):
    """What is read at each tick, None where the line is silent."""
    check_letters(letters)
    if not is_between(patience, 0, 3):
        raise BadPatience("this is no patience")
    return [best if at - best <= patience else None for at, best in enumerate(greatest_so_far(letters))]


def longest_loss(letters, late):
    """How many letters in a row are lost, at most: those that have not come when it is too late for them."""
    came = {number: True for numbers in letters for number in numbers}
    longest, row = 0, 0
    for number in range(1, len(letters) - late):
        row = 0 if number in came else row + 1
        longest = max(longest, row)
    return longest


def has_net(net, letters):
    """Whether a course of letters has a net."""
    check_net(net)
    check_letters(letters)
    _, late, lost = net
    # The item at is that of tick at + 1.
    if any([number < at - late for at, came in enumerate(letters) for number in came]):
        return False
    return lost is None or longest_loss(letters, late) <= lost


def pointers(letters):
    """The greatest numbers that have come, tick by tick."""
    check_letters(letters)
    return greatest_so_far(letters)


def is_pointer(net, at, number, ahead):
    """Whether a number can be read at tick at + 1, behind the one ahead."""
    _, late, lost = net
    if not is_between(number, ahead, at) or (number > ahead and number < at - late):
        return False
    return lost is None or number >= at - late - lost


def is_pointers(net, value):
    """As is_pointer_row, of a net."""
    if not is_row(value) or len(value) > TICKS:
        return False
    ahead = 0
    for at, number in enumerate(value):
        if not is_pointer(net, at, number, ahead):
            return False
        ahead = number
    return True


def is_pointer_row(net, value):
    """Whether a value is a row of pointers that a net lets come."""
    check_net(net)
    return is_pointers(net, value)


def letters_of(net, row):
    """A course of letters with these pointers.

    A letter that raises the pointer comes there. Each other one comes at the last tick that the net
    lets it, if the pointer is not below it then; otherwise it is lost.
    """
    check_net(net)
    if not is_pointers(net, row):
        raise BadPointers("this is no row of pointers of the net")
    late = net[1]
    found = [[] for _ in row]
    raised = {0: True}
    for at, number in enumerate(row):
        if number not in raised:
            raised[number] = True
            found[at].append(number)
    for number in range(1, len(row) - late):
        if number not in raised and row[number + late] >= number:
            found[number + late].append(number)
    return [tuple(came) for came in found]
