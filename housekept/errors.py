"""The errors of the package: each stands directly under KeptError."""

class KeptError(ValueError):
    """Something that was passed in, or asked for, is not as the document says."""

class BadAir(KeptError):
    """A value is not as the document says of "air"."""

class BadAlarm(KeptError):
    """A value is not as the document says of "alarm"."""

class BadArea(KeptError):
    """A value is not as the document says of "area"."""

class BadAreas(KeptError):
    """A value is not as the document says of "areas"."""

class BadBench(KeptError):
    """A value is not as the document says of "bench"."""

class BadBuilding(KeptError):
    """A value is not as the document says of "building"."""

class BadButtons(KeptError):
    """A value is not as the document says of "buttons"."""

class BadCalendar(KeptError):
    """A value is not as the document says of "calendar"."""

class BadChoice(KeptError):
    """A value is not as the document says of "choice"."""

class BadChoices(KeptError):
    """A value is not as the document says of "choices"."""

class BadClock(KeptError):
    """A value is not as the document says of "clock"."""

class BadComfort(KeptError):
    """A value is not as the document says of "comfort"."""

class BadCompany(KeptError):
    """A value is not as the document says of "company"."""

class BadController(KeptError):
    """A value is not as the document says of "controller"."""

class BadCount(KeptError):
    """A value is not as the document says of "count"."""

class BadCourse(KeptError):
    """A value is not as the document says of "course"."""

class BadCrowd(KeptError):
    """A value is not as the document says of "crowd"."""

class BadCrowds(KeptError):
    """A value is not as the document says of "crowds"."""

class BadDate(KeptError):
    """A value is not as the document says of "date"."""

class BadDegrees(KeptError):
    """A value is not as the document says of "degrees"."""

class BadDoor(KeptError):
    """A value is not as the document says of "door"."""

class BadDoors(KeptError):
    """A value is not as the document says of "doors"."""

class BadEyes(KeptError):
    """A value is not as the document says of "eyes"."""

class BadFalls(KeptError):
    """A value is not as the document says of "falls"."""

class BadFew(KeptError):
    """A value is not as the document says of "few"."""

class BadFire(KeptError):
    """A value is not as the document says of "fire"."""

class BadFitting(KeptError):
    """A value is not as the document says of "fitting"."""

class BadFloor(KeptError):
    """A value is not as the document says of "floor"."""

class BadFloors(KeptError):
    """A value is not as the document says of "floors"."""

class BadGreatest(KeptError):
    """A value is not as the document says of "greatest"."""

class BadHinder(KeptError):
    """A value is not as the document says of "hinder"."""

class BadHindrance(KeptError):
    """A value is not as the document says of "hindrance"."""

class BadHour(KeptError):
    """A value is not as the document says of "hour"."""

class BadHousehold(KeptError):
    """A value is not as the document says of "household"."""

class BadJourney(KeptError):
    """A value is not as the document says of "journey"."""

class BadKind(KeptError):
    """A value is not as the document says of "kind"."""

class BadKnowledge(KeptError):
    """A value is not as the document says of "knowledge"."""

class BadLabel(KeptError):
    """A value is not as the document says of "label"."""

class BadLetters(KeptError):
    """A value is not as the document says of "letters"."""

class BadLines(KeptError):
    """A value is not as the document says of "lines"."""

class BadLoads(KeptError):
    """A value is not as the document says of "loads"."""

class BadLog(KeptError):
    """A value is not as the document says of "log"."""

class BadLooks(KeptError):
    """A value is not as the document says of "looks"."""

class BadLot(KeptError):
    """A value is not as the document says of "lot"."""

class BadMachine(KeptError):
    """A value is not as the document says of "machine"."""

class BadMark(KeptError):
    """A value is not as the document says of "mark"."""

class BadMarks(KeptError):
    """A value is not as the document says of "marks"."""

class BadMode(KeptError):
    """A value is not as the document says of "mode"."""

class BadMoment(KeptError):
    """A value is not as the document says of "moment"."""

class BadMost(KeptError):
    """A value is not as the document says of "most"."""

class BadMove(KeptError):
    """A value is not as the document says of "move"."""

class BadName(KeptError):
    """A value is not as the document says of "name"."""

class BadNames(KeptError):
    """A value is not as the document says of "names"."""

class BadNeeds(KeptError):
    """A value is not as the document says of "needs"."""

class BadNet(KeptError):
    """A value is not as the document says of "net"."""

class BadNumber(KeptError):
    """A value is not as the document says of "number"."""

class BadNumbers(KeptError):
    """A value is not as the document says of "numbers"."""

class BadOrder(KeptError):
    """A value is not as the document says of "order"."""

class BadOthers(KeptError):
    """A value is not as the document says of "others"."""

class BadPanel(KeptError):
    """A value is not as the document says of "panel"."""

class BadPaper(KeptError):
    """A value is not as the document says of "paper"."""

class BadParting(KeptError):
    """A value is not as the document says of "parting"."""

class BadPassage(KeptError):
    """A value is not as the document says of "passage"."""

class BadPatience(KeptError):
    """A value is not as the document says of "patience"."""

class BadPerson(KeptError):
    """A value is not as the document says of "person"."""

class BadPlace(KeptError):
    """A value is not as the document says of "place"."""

class BadPlacement(KeptError):
    """A value is not as the document says of "placement"."""

class BadPlaces(KeptError):
    """A value is not as the document says of "places"."""

class BadPlan(KeptError):
    """A value is not as the document says of "plan"."""

class BadPointers(KeptError):
    """A value is not as the document says of "pointers"."""

class BadPromise(KeptError):
    """A value is not as the document says of "promise"."""

class BadQuestion(KeptError):
    """A value is not as the document says of "question"."""

class BadRight(KeptError):
    """A value is not as the document says of "right"."""

class BadRound(KeptError):
    """A value is not as the document says of "round"."""

class BadRow(KeptError):
    """A value is not as the document says of "row"."""

class BadRule(KeptError):
    """A value is not as the document says of "rule"."""

class BadSetting(KeptError):
    """A value is not as the document says of "setting"."""

class BadSide(KeptError):
    """A value is not as the document says of "side"."""

class BadSignal(KeptError):
    """A value is not as the document says of "signal"."""

class BadSleepers(KeptError):
    """A value is not as the document says of "sleepers"."""

class BadStanding(KeptError):
    """A value is not as the document says of "standing"."""

class BadState(KeptError):
    """A value is not as the document says of "state"."""

class BadStay(KeptError):
    """A value is not as the document says of "stay"."""

class BadTable(KeptError):
    """A value is not as the document says of "table"."""

class BadThing(KeptError):
    """A value is not as the document says of "thing"."""

class BadTicks(KeptError):
    """A value is not as the document says of "ticks"."""

class BadTo(KeptError):
    """A value is not as the document says of "to"."""

class BadTold(KeptError):
    """A value is not as the document says of "told"."""

class BadTree(KeptError):
    """A value is not as the document says of "tree"."""

class BadWatch(KeptError):
    """A value is not as the document says of "watch"."""

class BadWeb(KeptError):
    """A value is not as the document says of "web"."""

class BadWheel(KeptError):
    """A value is not as the document says of "wheel"."""

class BadWhen(KeptError):
    """A value is not as the document says of "when"."""

class BadWords(KeptError):
    """A value is not as the document says of "words"."""

class BadWorld(KeptError):
    """A value is not as the document says of "world"."""

class BadYear(KeptError):
    """A value is not as the document says of "year"."""

class NoWay(KeptError):
    """There is no way between two areas."""

class NotFree(KeptError):
    """A door does not stand free."""

class NotThere(KeptError):
    """Nobody of the kind is in the area."""

class NothingDone(KeptError):
    """No deed stands that could be taken back."""

class SameArea(KeptError):
    """Two areas that must be unlike are the same."""

class Unfit(KeptError):
    """A machine, an air and a fitting do not fit one another."""

class UnlikeBuildings(KeptError):
    """Two texts are of unlike buildings."""

class UnlikeSignals(KeptError):
    """Two worlds have unlike signals."""

class UnlikeTexts(KeptError):
    """Two texts are unlike in more than their rules."""

class BadLabels(KeptError):
    """A row of labels goes wrong at an index, None if it is no row."""
    def __init__(self, index):
        self.index = index

class BadMoves(KeptError):
    """A list of moves goes wrong at an index."""
    def __init__(self, at):
        self.at = at

class BadText(KeptError):
    """A value is no text; place is its first wrong place."""
    def __init__(self, place):
        self.place = place

class BadTick(KeptError):
    """A list of ticks goes wrong at an index."""
    def __init__(self, at):
        self.at = at

class BadWeather(KeptError):
    """A weather is wrong at a tick."""
    def __init__(self, at):
        self.at = at

class BadWord(KeptError):
    """A string is wrong at a word of a line."""
    def __init__(self, line, word):
        self.line = line
        self.word = word

class NoCourse(KeptError):
    """A log has no course, from a row on."""
    def __init__(self, index):
        self.index = index

class NoPlace(KeptError):
    """A rule lies at no panel."""
    def __init__(self, rule):
        self.rule = rule

class NotKept(KeptError):
    """No moment is kept by the name."""
    def __init__(self, name):
        self.name = name

class TooLong(KeptError):
    """Something is longer than the most that is let."""
    def __init__(self, most):
        self.most = most

class TooMany(KeptError):
    """There are more than the most that are let."""
    def __init__(self, most):
        self.most = most
