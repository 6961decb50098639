"""Journals: the deeds of a bench as lines, each with its answer."""
from housekept.bench import Bench
from housekept.deedlines import deed_in, line_of, words_in
from housekept.desk import OK, done
from housekept.errors import BadBench, BadLines, KeptError
from housekept.readtexts import text_from
from housekept.shapes import is_row
from housekept.texts import string_of

BETWEEN = " : "
EXCHANGE = "exchange"


def answer_to(bench, deed):
    """Do a deed of a log; what is answered."""
    if deed[0] == EXCHANGE:
        bench.exchange(deed[1])
        return OK
    return done(bench, deed)


def line_for(deed):
    return EXCHANGE + "\n" + string_of(deed[1]) if deed[0] == EXCHANGE else line_of(deed)


def journal(bench):
    """For each deed of a bench's log its line and its answer."""
    if not isinstance(bench, Bench):
        raise BadBench("this is no bench")
    # Deeds that were taken back left nothing behind, so a fresh bench answers as this one did.
    fresh = Bench(bench.begun[0], bench.begun[1])
    return [line_for(deed) + BETWEEN + answer_to(fresh, deed) for deed in bench.log]


def deed_told(line):
    """The deed that a line tells, None if it is no line of a log."""
    head, newline, string = line.partition("\n")
    if newline:
        return (EXCHANGE, text_from(string)) if head == EXCHANGE else None
    words = words_in(head)
    deed = None if words is None else deed_in(words)
    return None if deed is None or deed[0] == "undo" else deed


def is_kept_line(bench, line):
    """Whether a line of a journal is right when its deed is done by a bench."""
    told, between, answer = line.rpartition(BETWEEN)
    try:
        deed = deed_told(told) if between else None
        return deed is not None and answer_to(bench, deed) == answer
    except KeptError:
        return False


def first_wrong(text, household, lines):
    """The index of the first line of a journal that is not as a fresh bench answers, None if all are."""
    bench = Bench(text, household)
    if not is_row(lines) or not all([type(line) is str for line in lines]):
        raise BadLines("this is no list of strings")
    for at, line in enumerate(lines):
        if not is_kept_line(bench, line):
            return at
    return None
