"""A desk: a bench that is asked and told what to do by lines of words."""
from housekept.bench import Bench
from housekept.buildings import areas_of, door_names, inner_areas, kinds_of
from housekept.deedlines import deed_in, is_whole_word, line_of, listed, said_in, words_in
from housekept.errors import BadWord, KeptError
from housekept.readtexts import text_from
from housekept.rules import BUTTONS, DEEP, value_of
from housekept.texts import string_of

WHAT = "what"
EMPTY = "empty"
OK = "ok"
# How many words stand behind the first word of a condition, and how many conditions.
PLAIN = {"always": 0, "right": 0, "is": 2, "least": 2, "running": 1, "stands": 2}
NESTED = {"not": 1, "both": 2, "either": 2}


def condition_from(words, deep):
    """The condition at the beginning of some words, and what stands behind it; None if there is none so deep."""
    if deep == 0 or not words:
        return None
    head, rest = words[0], words[1:]
    if head in NESTED:
        parts = []
        for _ in range(NESTED[head]):
            found = condition_from(rest, deep - 1)
            if found is None:
                return None
            parts.append(found[0])
            rest = found[1]
        return ((head,) + tuple(parts), rest)
    if head not in PLAIN or len(rest) < PLAIN[head]:
        return None
    fields = rest[:PLAIN[head]]
    if head == "least":
        if not is_whole_word(fields[1]):
            return None
        fields = [fields[0], int(fields[1])]
    return ((head,) + tuple(fields), rest[PLAIN[head]:])


def promise_in(words):
    """The promise that the words behind guard tell, None if they have no such form."""
    if len(words) < 4 or not is_whole_word(words[2]):
        return None
    found = condition_from(words[3:], DEEP)
    if found is None or found[1]:
        return None
    return ("never", found[0], ((words[1], words[0], int(words[2])),))


def doors_told(bench):
    names = door_names(bench.text[1])
    return listed([name + " " + how for name, how in zip(names, bench.doors())])


def crowd_told(bench):
    building = bench.text[1]
    found = []
    for kind, row in zip(kinds_of(building), bench.crowd()):
        found.extend([" ".join([kind, area, str(many)]) for area, many in zip(areas_of(building), row) if many > 0])
    return listed(found)


def kept_told(bench):
    return listed(bench.kept)


def text_told(bench):
    return string_of(bench.text)


QUESTIONS = {"doors": doors_told, "crowd": crowd_told, "kept": kept_told, "text": text_told}


def guard_told(bench, promise):
    world = ("world", inner_areas(bench.text[1]), BUTTONS, (), 0)
    return listed([line_of(deed) for deed in bench.guarded(promise, world)])


def done(bench, deed):
    """Do a deed; what is answered."""
    word = deed[0]
    if word == "show":
        return said_in(bench.show(deed[1], deed[2], deed[3]))
    if word == "go":
        return said_in(bench.go(deed[1], deed[2], deed[3]))
    if word == "signal":
        return said_in(bench.signal(deed[1]))
    if word == "keep":
        bench.keep(deed[1])
    elif word == "back":
        bench.back(deed[1])
    else:
        bench.undo()
    return OK


class Desk:
    """A bench, when one has been read, and what is said to it."""

    def __init__(self):
        self.bench = None

    def say(self, line):
        """The answer to a line, or to any other value."""
        if type(line) is not str:
            return WHAT
        head, newline, string = line.partition("\n")
        words = words_in(head)
        if words is None:
            return WHAT
        try:
            if newline:
                return self.answered_text(words, string)
            return self.answered_line(words)
        except BadWord as wrong:
            return " ".join(["error badword", str(wrong.line), str(wrong.word)])
        except KeptError as e:
            return "error " + type(e).__name__.lower()

    def answered_text(self, words, string):
        """The answer to a line with the string of a text behind it."""
        if words[0] == "read" and len(words) > 1 and all([is_whole_word(word) for word in words[1:]]):
            text = text_from(string)
            self.bench = Bench(text, [int(word) for word in words[1:]])
            return OK
        if words != ["exchange"]:
            return WHAT
        if self.bench is None:
            return EMPTY
        self.bench.exchange(text_from(string))
        return OK

    def answered_line(self, words):
        """The answer to a line without a text."""
        deed = deed_in(words)
        promise = promise_in(words[1:]) if words[0] == "guard" else None
        asks = (len(words) == 1 and words[0] in QUESTIONS) or (len(words) == 2 and words[0] == "value")
        if deed is None and promise is None and not asks:
            return WHAT
        if self.bench is None:
            return EMPTY
        if deed is not None:
            return done(self.bench, deed)
        if promise is not None:
            return guard_told(self.bench, promise)
        if words[0] == "value":
            return value_of(self.bench.text, self.bench.now, words[1])
        question = QUESTIONS[words[0]]
        return question(self.bench)
