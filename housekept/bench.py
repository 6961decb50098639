"""A bench: a text that is run deed by deed, with a crowd, kept moments, and deeds that are taken back."""
from housekept.buildings import check_door, check_kind, check_side, is_name, side_area
from housekept.courses import moved, number_at, with_more
from housekept.crowds import is_household_of, outside_crowd
from housekept.errors import BadHousehold, BadName, BadPromise, BadSignal, NotFree, NotKept, NotThere, NothingDone
from housekept.exchange import by_names, check_new
from housekept.judging import is_question, numbers_where
from housekept.machines import Machine, check_world
from housekept.meaning import account_of
from housekept.promises import are_filled, are_needs, crowds_filling
from housekept.rounds import Program, test_of
from housekept.rules import begin, check_text, is_signal_of, scope_of
from housekept.shapes import is_among, is_tuple
from housekept.tables import Table
from housekept.webs import web_of

PERSONS = 20
MOST = 5000


def check_bench_promise(text, promise):
    """A promise that is told by a question: ("never", question, needs)."""
    right = is_tuple(promise, 3, 3) and promise[0] == "never"
    if not right or not is_question(scope_of(text), promise[1]) or not are_needs(text[1], promise[2]):
        raise BadPromise("this is no promise of the text")


def deed_of(label):
    """A move of a web as a deed."""
    return label if label[0] in ("show", "go") else ("signal", label)


def table_from(text, standing, promise, world):
    """The machine from a standing on, its web, and the table of how the promise can be broken there."""
    machine = Machine(text, world, start=standing)
    web = web_of(machine)
    crowds = tuple(crowds_filling(text[1], promise[2]))
    where = {place: True for place in numbers_where(machine, promise[1])}
    loads = tuple([crowds if place in where else () for place in range(len(machine))])
    return Table(text[1], web, loads, MOST)


class Bench:
    """A text, a standing and a crowd, and the deeds that led there."""

    def __init__(self, text, household):
        check_text(text)
        row = tuple(household) if type(household) is list else household
        if not is_household_of(text[1], row) or sum(row) > PERSONS:
            raise BadHousehold("this is no household of at most 20 persons")
        self.begun = (text, row)
        # The states behind the deeds, the first one too: each (text, standing, crowd, what is kept by names).
        self.past = ((text, begin(text), outside_crowd(text[1], row), {}),)
        self.deeds = ()

    def __eq__(self, other):
        return isinstance(other, Bench) and self.begun == other.begun and self.deeds == other.deeds

    def __len__(self):
        return len(self.deeds)

    @property
    def text(self):
        """The text that is run now."""
        return self.past[-1][0]

    @property
    def household(self):
        """How many persons of each kind there are."""
        return list(self.begun[1])

    @property
    def now(self):
        """The standing."""
        return self.past[-1][1]

    @property
    def kept(self):
        """The names of the kept moments, ascending."""
        return sorted(self.past[-1][3])

    @property
    def log(self):
        """The deeds that stand."""
        return list(self.deeds)

    def crowd(self):
        """Who is where."""
        return self.past[-1][2]

    def doors(self):
        """How the doors stand."""
        standing = self.past[-1][1]
        return tuple([stuck or worth for stuck, worth in zip(standing[3], standing[0])])

    def did(self, deed, state):
        """Take in a deed and the state behind it."""
        self.past = self.past + (state,)
        self.deeds = self.deeds + (deed,)

    def signalled(self, deed, signal, crowd):
        """Work off a signal, the crowd being as it is behind the deed."""
        text, standing, _, names = self.past[-1]
        program = Program(text)
        account = account_of(program, program.slots.flat(standing), signal)[0]
        self.did(deed, (text, account[0], crowd, names))
        return account

    def check_there(self, kind, door, side):
        """The spot of somebody of a kind at a door's side."""
        building = self.past[-1][0][1]
        check_kind(building, kind)
        check_door(building, door)
        check_side(side)
        spot = (kind, side_area(building, door, side))
        if number_at(building, self.past[-1][2], spot) == 0:
            raise NotThere("nobody of the kind is there")
        return spot

    def show(self, kind, door, side):
        """Somebody shows a card at a door's side."""
        self.check_there(kind, door, side)
        return self.signalled(("show", kind, door, side), ("card", door, side, kind), self.past[-1][2])

    def go(self, kind, door, side):
        """Somebody goes through a door that stands free."""
        spot = self.check_there(kind, door, side)
        text, _, crowd, _ = self.past[-1]
        if self.doors()[[row[0] for row in text[1][2]].index(door)] != "free":
            raise NotFree("the door does not stand free")
        there = (kind, side_area(text[1], door, 1 - side))
        crowd = with_more(text[1], with_more(text[1], crowd, spot, -1), there, 1)
        return self.signalled(("go", kind, door, side), ("pass", door, side), crowd)

    def signal(self, signal):
        """Work off a signal that nobody makes at a door."""
        if not is_signal_of(scope_of(self.past[-1][0]), signal) or signal[0] in ("card", "pass"):
            raise BadSignal("this is no signal of the text without a person")
        return self.signalled(("signal", signal), signal, self.past[-1][2])

    def exchange(self, text):
        """Another text of the building takes over."""
        old, standing, crowd, names = self.past[-1]
        check_new(old, text)
        self.did(("exchange", text), (text, by_names(old, text, standing), crowd, names))

    def keep(self, name):
        """Keep this moment by a name."""
        if not is_name(name):
            raise BadName("this is no name")
        text, standing, crowd, names = self.past[-1]
        kept = {one: names[one] for one in names}
        kept[name] = (text, standing, crowd)
        self.did(("keep", name), (text, standing, crowd, kept))

    def back(self, name):
        """Let all be as at a kept moment."""
        names = self.past[-1][3]
        if not is_among(name, names):
            raise NotKept(name)
        self.did(("back", name), names[name] + (names,))

    def undo(self):
        """Take the last deed back."""
        if not self.deeds:
            raise NothingDone("there is no deed to take back")
        self.past = self.past[:-1]
        self.deeds = self.deeds[:-1]

    def copy(self):
        """An independent bench that is equal to this one."""
        other = Bench(self.begun[0], self.begun[1])
        other.past = self.past
        other.deeds = self.deeds
        return other

    def tried(self, task):
        """What a function returns for this bench; if an exception leaves it, all is as ahead."""
        past, deeds, done = self.past, self.deeds, None
        try:
            told = task(self)
            done = True
        finally:
            if done is None:
                self.past, self.deeds = past, deeds
        return told

    def holds(self, promise):
        """Whether a promise is not broken now."""
        text, standing, crowd, _ = self.past[-1]
        check_bench_promise(text, promise)
        program = Program(text)
        asked = test_of(program.slots, promise[1])
        return not (asked(program.slots.flat(standing), False) and are_filled(text[1], promise[2], crowd))

    def still(self, promise, world):
        """The least row of deeds of a world that breaks a promise from now on, None if there is none."""
        text, standing, crowd, _ = self.past[-1]
        check_bench_promise(text, promise)
        check_world(scope_of(text), world)
        moves = table_from(text, standing, promise, world).closed.moves_from(0, crowd)
        return None if moves is None else [deed_of(move[0]) for move in moves]

    def guarded(self, promise, world):
        """The deeds of a world that can be done now, and behind which a promise can be broken."""
        text, standing, crowd, _ = self.past[-1]
        check_bench_promise(text, promise)
        check_world(scope_of(text), world)
        table = table_from(text, standing, promise, world)
        full = len(standing[3]) - standing[3].count(None) >= world[4]
        found = []
        for move in table.web[2][0]:
            behind = moved(text[1], crowd, move)
            barred = full and move[0][0] == "stuck"
            if behind is not None and not barred and table.closed.left_of(move[3], behind) is not None:
                found.append(deed_of(move[0]))
        return found
