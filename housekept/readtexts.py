"""Texts read from strings, word by word: the first word or end with which no text can begin."""
from housekept.buildings import inner_areas, is_name
from housekept.errors import BadWord
from housekept.rules import DEEP, Scope

RIGHTS = ("0", "1")
ANY = "any"
# What stands for an end instead of a word.
END = None


def wholes(low, high):
    """The wholes from low to high as words."""
    return [str(number) for number in range(low, high + 1)]


class Choice:
    """What can stand at a place: some words, any name but some, an end."""

    def __init__(self, words, *, names=False, but=(), ends=False):
        self.words = words
        self.names = names
        self.but = but
        self.ends = ends

    def lets(self, word):
        """Whether a word, or None for an end, can stand here."""
        if word is None:
            return self.ends
        return word in self.words or (self.names and is_name(word) and word not in self.but)

    def some_word(self):
        """A word that can stand here."""
        return self.words[0] if self.words else new_name(self.but)


def new_name(names):
    """A name that is none of some."""
    for one in "abcdefghijklmnopqrstuvwxyz":
        for other in "abcdefghijklmnopqrstuvwxyz":
            if one + other not in names:
                return one + other
    return "abc"


class Reader:
    """A text as far as it has been read."""

    def __init__(self):
        self.areas = []
        self.doors = []
        self.kinds = []
        self.rights = []
        self.variables = []
        self.timers = []
        self.counters = []
        self.rules = []
        # When and condition of a rule whose deeds may follow, and these.
        self.when = None
        self.condition = None
        self.deeds = []
        # The order of the parts of a text: how far it has come.
        self.stage = 0
        self.words = []
        self.scope = None

    def whole_text(self):
        """The text, if it is whole."""
        parts = [tuple(self.variables), tuple(self.timers), tuple(self.counters)]
        return ("text", self.house(), parts[0], parts[1], parts[2], tuple(self.rules + [self.last_rule()]))

    def house(self):
        return ("building", tuple(self.areas), tuple(self.doors), tuple(self.kinds), tuple(self.rights))

    def last_rule(self):
        return (self.when, self.condition, tuple(self.deeds))

    def is_whole(self):
        """Whether behind a line the text can end."""
        return self.condition is not None

    def used(self):
        """The names of doors, own variables, timers and counters."""
        return [row[0] for row in self.doors + self.variables + self.timers + self.counters]

    def heads(self):
        """The words with which the next line can begin: first the one that leads on soonest to a whole text."""
        if self.when is not None and self.condition is None:
            return ["if"]
        found = ["when"] if self.kinds and len(self.rules) + (1 if self.is_whole() else 0) < 30 else []
        if self.is_whole() and len(self.deeds) < 4:
            found.append("then")
        parts = [("area", self.areas, 6, True), ("door", self.doors, 6, len(self.areas) > 1),
                 ("kind", self.kinds, 3, len(self.doors) > 0), ("right", [], 1, self.has_rights()),
                 ("variable", self.variables, 5, len(self.kinds) > 0), ("timer", self.timers, 3, len(self.kinds) > 0),
                 ("counter", self.counters, 2, len(self.kinds) > 0)]
        lines = [word for at, (word, rows, most, can) in enumerate(parts)
                 if at >= self.stage and len(rows) < most and can]
        # A building that lacks something asks for its last part that can come.
        return found + lines[::-1]

    def has_rights(self):
        return len(self.kinds) > 0 and len(self.rights_left()) > 0

    def rights_left(self):
        """The rights behind the last one, as words."""
        found = [(kind, door[0], side) for kind in self.kinds for door in self.doors for side in (0, 1)]
        if self.rights:
            found = found[found.index(self.rights[-1]) + 1:]
        return [(kind, door, str(side)) for kind, door, side in found]

    def choice(self):
        """What can stand behind the words of this line."""
        if not self.words:
            return Choice(self.heads())
        head = self.words[0]
        if head == "if":
            return condition_choice(self.scope, self.words[1:], False)
        if head == "when":
            return when_choice(self.scope, self.words[1:])
        if head == "then":
            return deed_choice(self.scope, self.deeds, self.words[1:])
        return self.part_choice(head, self.words[1:])

    def part_choice(self, head, words):
        """What can stand behind some words of a line that tells no rule."""
        if head == "right":
            left = [right[len(words)] for right in self.rights_left() if len(words) < 3
                    and list(right[:len(words)]) == words]
            return Choice(left, ends=len(words) == 3)
        if not words:
            rows = {"area": self.areas, "kind": self.kinds, "door": [door[0] for door in self.doors]}
            return Choice([], names=True, but=rows.get(head, self.used()))
        if head == "door":
            return self.door_choice(words)
        if head == "variable":
            many = len(words) - 1
            return Choice([], names=many < 4, but=words[1:], ends=many >= 2)
        if head == "timer" or head == "counter":
            most = 12 if head == "timer" else 5
            return Choice(wholes(1, most) if len(words) == 1 else [], ends=len(words) == 2)
        return Choice([], ends=True)

    def door_choice(self, words):
        if len(words) < 3:
            return Choice([area for area in self.areas if area not in words[1:]])
        return Choice(["leaf", "gate"] if len(words) == 3 else [], ends=len(words) == 4)

    def take(self, word):
        """Take in a word, or an end of a line, that can stand here."""
        if word is not None:
            if not self.words and word == "when" and self.scope is None:
                self.scope = full_scope(self)
                self.stage = 7
            self.words.append(word)
            return
        head, words = self.words[0], self.words[1:]
        self.words = []
        if head in ("when", "if", "then"):
            self.take_rule_line(head, words)
        else:
            self.take_part_line(head, words)

    def take_part_line(self, head, words):
        order = ("area", "door", "kind", "right", "variable", "timer", "counter")
        self.stage = order.index(head)
        if head == "area":
            self.areas.append(words[0])
        elif head == "door":
            self.doors.append(tuple(words))
        elif head == "kind":
            self.kinds.append(words[0])
        elif head == "right":
            self.rights.append((words[0], words[1], int(words[2])))
        elif head == "variable":
            self.variables.append((words[0], tuple(words[1:])))
        elif head == "timer":
            self.timers.append((words[0], int(words[1])))
        else:
            self.counters.append((words[0], int(words[1])))

    def take_rule_line(self, head, words):
        if head == "when":
            self.take_when(words)
        elif head == "if":
            self.condition = condition_in(words)
        else:
            self.deeds.append(with_wholes(words))

    def take_when(self, words):
        if self.when is not None:
            self.rules.append(self.last_rule())
        self.when = with_wholes(words)
        self.condition = None
        self.deeds = []


def full_scope(reader):
    """What rules can speak of, behind all lines that tell names."""
    scope = Scope(reader.house())
    for name, worths in reader.variables:
        scope.worths[name] = worths
    for name, most in reader.timers:
        scope.timers[name] = most
    for name, cap in reader.counters:
        scope.counters[name] = cap
    return scope


def with_wholes(words):
    """A when or a deed: what is written in digits is a whole."""
    return tuple([int(word) if word.isdigit() else word for word in words])


def at_place(fields, words):
    """The choice behind some words, when the fields behind the first of them are known."""
    if len(words) - 1 < len(fields):
        return Choice(fields[len(words) - 1])
    return Choice([], ends=True)


def when_choice(scope, words):
    """What can stand behind some words of a when."""
    if not words:
        heads = ["tick", "card", "pass", "smoke", "button", "stuck", "mended", "becomes"]
        return Choice(heads + ["ran"] if scope.timers else heads)
    head = words[0]
    doors, sides = list(scope.doors) + [ANY], ["0", "1", ANY]
    if head == "becomes":
        worths = [] if len(words) == 1 else list(scope.worths[words[1]]) + [ANY]
        return at_place([list(scope.worths), worths], words)
    fields = {"card": [doors, sides, list(scope.kinds) + [ANY]], "pass": [doors, sides],
              "smoke": [list(inner_areas(scope.building)) + [ANY], ["yes", "no", ANY]], "button": [wholes(0, 5)],
              "stuck": [doors], "mended": [doors], "tick": [], "ran": [list(scope.timers)]}
    return at_place(fields[head], words)


def deed_choice(scope, deeds, words):
    """What can stand behind some words of a deed, when a rule has some deeds already."""
    used = [deed[1] for deed in deeds]
    free = [name for name in scope.worths if not name.startswith("smoke:") and name not in used]
    timers = [name for name in scope.timers if name not in used]
    counters = [name for name in scope.counters if name not in used]
    said = [word for word in wholes(0, 9) if int(word) not in used]
    names = {"say": said, "let": free, "start": timers, "stop": timers, "more": counters, "less": counters}
    if not words:
        return Choice([head for head in names if names[head]])
    seconds = []
    if len(words) > 1 and words[0] == "let":
        seconds = [list(scope.worths[words[1]])]
    if len(words) > 1 and words[0] == "start":
        seconds = [wholes(1, scope.timers[words[1]])]
    if len(words) == 1:
        return Choice(names[words[0]])
    return at_place([[]] + seconds, words)


def condition_fields(scope, head, words):
    """The words that can stand at each place behind the first word of a condition without another one in it."""
    if head == "is":
        return [list(scope.worths), list(scope.worths[words[0]]) if words else []]
    if head == "least":
        return [list(scope.counters), wholes(1, scope.counters[words[0]]) if words else []]
    if head == "running":
        return [list(scope.timers)]
    if head == "stands":
        return [list(scope.doors), ["shut", "free"]]
    return []


def condition_heads(scope, deep, asked):
    """The first words of a condition that may be nested so deep."""
    found = ["always", "is"] + (["stands"] if asked else ["right"])
    found.extend(["least"] if scope.counters else [])
    found.extend(["running"] if scope.timers else [])
    return found + (["not", "both", "either"] if deep > 1 else [])


def condition_choice(scope, words, asked):
    """What can stand behind some words of a condition; asked: of a question."""
    waiting = [DEEP]
    at = 0
    while at < len(words):
        head, deep = words[at], waiting.pop()
        at += 1
        if head in ("not", "both", "either"):
            waiting.extend([deep - 1] * (1 if head == "not" else 2))
            continue
        fields = condition_fields(scope, head, words[at:])
        if len(words) - at < len(fields):
            return Choice(fields[len(words) - at])
        at += len(fields)
    return Choice(condition_heads(scope, waiting[-1], asked)) if waiting else Choice([], ends=True)


def condition_in(words):
    """The condition that some words tell, from behind: each word takes what stands behind it."""
    many = {"not": 1, "both": 2, "either": 2}
    fields = {"is": 2, "least": 2, "running": 1, "stands": 2, "always": 0, "right": 0}
    found = []
    at = 0
    heads = []
    while at < len(words):
        size = fields.get(words[at], 0)
        heads.append((words[at], words[at + 1:at + 1 + size]))
        at += 1 + size
    for head, rest in heads[::-1]:
        if head in many:
            parts = [found.pop() for _ in range(many[head])]
            found.append((head,) + tuple(parts))
        else:
            found.append((head,) + with_wholes(rest))
    return found[0]


class Progress:
    """How far a string is right, and the right words of each of its lines."""

    def __init__(self, string):
        self.reader = Reader()
        self.rows = []
        self.wrong = None
        lines = string.split("\n")
        for at, line in enumerate(lines):
            if self.wrong is None:
                self.read_line(at + 1, line.split(" "))
        if self.wrong is None and not self.reader.is_whole():
            self.wrong = (len(lines), len(self.rows[-1]) + 2)

    def read_line(self, number, words):
        self.rows.append([])
        for word in words + [END]:
            if not self.reader.choice().lets(word):
                self.wrong = (number, len(self.rows[-1]) + 1)
                return
            self.take(word)

    def take(self, word):
        self.reader.take(word)
        if word is not None:
            self.rows[-1].append(word)

    def complete(self):
        """Go on to a whole text from what is right."""
        # What is wrong in a line leaves the line there, maybe without a word; the string's end leaves none.
        if self.rows and self.rows[-1] == []:
            self.rows.pop()
        while self.reader.words or not self.reader.is_whole():
            choice = self.reader.choice()
            if not self.reader.words:
                self.rows.append([])
            self.take(END if choice.ends else choice.some_word())


def text_from(string):
    """The text whose string this is."""
    if type(string) is not str:
        raise BadWord(1, 1)
    progress = Progress(string)
    if progress.wrong is not None:
        raise BadWord(progress.wrong[0], progress.wrong[1])
    return progress.reader.whole_text()


def ended(string):
    """A string of a text that begins with all that is right in this one."""
    if type(string) is not str:
        raise BadWord(1, 1)
    progress = Progress(string)
    progress.complete()
    return "\n".join([" ".join(row) for row in progress.rows])
