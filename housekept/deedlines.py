"""Lines of words that tell deeds, and what is answered to them."""

DIGITS = "0123456789"
LONGEST = 30
# How many words stand behind the first one of a deed's line, and which of these is a whole, None for none.
DEEDS = {"show": (3, 2), "go": (3, 2), "smoke": (2, None), "button": (1, 0), "stuck": (1, None), "mended": (1, None),
         "tick": (0, None), "keep": (1, None), "back": (1, None), "undo": (0, None)}
SIGNALS = ("smoke", "button", "stuck", "mended", "tick")


def words_in(line):
    """The words of a line with single blanks between, None if one is empty."""
    words = line.split(" ")
    return None if "" in words else words


def is_whole_word(word):
    """Whether a word is a whole of at most 30 digits, without zeros ahead."""
    if len(word) > LONGEST or not all([sign in DIGITS for sign in word]):
        return False
    return word == "0" or not word.startswith("0")


def deed_in(words):
    """The deed that the words of a line tell, None if they have no such form; names may be any."""
    if words[0] not in DEEDS:
        return None
    many, whole = DEEDS[words[0]]
    rest = words[1:]
    if len(rest) != many or (whole is not None and not is_whole_word(rest[whole])):
        return None
    parts = [int(word) if at == whole else word for at, word in enumerate(rest)]
    deed = (words[0],) + tuple(parts)
    return ("signal", deed) if words[0] in SIGNALS else deed


def line_of(deed):
    """The line of a deed that has no text behind it."""
    parts = deed[1] if deed[0] == "signal" else deed
    return " ".join([str(part) for part in parts])


def said_in(account):
    """What an account says: the words, and whether it is endless."""
    found = [str(word) for word in account[2]]
    if account[4]:
        found.append("endless")
    return " ".join(found) if found else "-"


def listed(parts):
    """Some strings as a list."""
    return ", ".join(parts) if parts else "-"
