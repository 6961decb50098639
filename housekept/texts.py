"""Texts as strings: a line for each thing that a text tells."""
from housekept.rules import check_text


def words_of(parts):
    """Words and wholes of a when, a condition or a deed, one behind another, without brackets."""
    found = []
    for part in parts:
        if type(part) is tuple:
            found.extend(words_of(part))
        else:
            found.append(str(part))
    return found


def string_of(text):
    """As text_of, of what is known to be a text."""
    building = text[1]
    rows = [["area", area] for area in building[1]]
    rows.extend([["door"] + list(door) for door in building[2]])
    rows.extend([["kind", kind] for kind in building[3]])
    rows.extend([["right"] + words_of(right) for right in building[4]])
    rows.extend([["variable", name] + list(worths) for name, worths in text[2]])
    rows.extend([["timer"] + words_of(timer) for timer in text[3]])
    rows.extend([["counter"] + words_of(counter) for counter in text[4]])
    for when, condition, deeds in text[5]:
        rows.append(["when"] + words_of(when))
        rows.append(["if"] + words_of(condition))
        rows.extend([["then"] + words_of(deed) for deed in deeds])
    return "\n".join([" ".join(row) for row in rows])


def text_of(text):
    """The string of a text."""
    check_text(text)
    return string_of(text)
