"""The journal: it passes lines to a desk of its own and records them with their answers."""

from tallyhull.desk import Desk
from tallyhull.errors import BadJournal, OpenTrial

LINE = "> "
ANSWER = "< "


def can_be_recorded(line):
    """Return whether all characters of a line are from the space to the tilde."""
    return all(" " <= sign <= "~" for sign in line)


class Journal:
    """A desk and the record of its lines; what it had before a trial, as long as one is open."""

    def __init__(self):
        self.desk = Desk()
        self.pairs = []
        self.is_open = False
        self.is_kept = False
        self.desk_before = None
        self.pairs_before = None

    def answer(self, line):
        """Return the answer to a line, and record both."""
        if not can_be_recorded(line):
            return "bad"
        told = self.desk.answer(line)
        self.pairs.append((line, told))
        return told

    def record(self):
        """Return the record."""
        return "".join([f"{LINE}{line}\n{ANSWER}{told}\n" for line, told in self.pairs])

    def lines(self):
        """Return the list of the recorded lines."""
        return [line for line, _ in self.pairs]

    def keep(self):
        """Keep what is answered in the open trial, if no exception leaves it."""
        if not self.is_open:
            raise OpenTrial("no trial is open")
        self.is_kept = True

    def __enter__(self):
        """Open a trial: it goes on with a desk and a list of its own."""
        if self.is_open:
            raise OpenTrial("a trial is open")
        self.desk_before = self.desk
        self.pairs_before = self.pairs
        self.desk = self.desk.copied()
        self.pairs = list(self.pairs)
        self.is_open = True
        self.is_kept = False
        return self

    def __exit__(self, kind, value, trace):
        """End the trial, and take back what was answered in it unless it is kept."""
        if kind is not None or not self.is_kept:
            self.desk = self.desk_before
            self.pairs = self.pairs_before
        self.desk_before = None
        self.pairs_before = None
        self.is_open = False
        self.is_kept = False


def attempt(journal, lines, *, keep=False):
    """Answer lines in a trial, and return the answers and the record at its end."""
    with journal as trial:
        answers = [trial.answer(line) for line in lines]
        if keep:
            trial.keep()
        told = trial.record()
    return answers, told


def check_line(row, at):
    """Raise BadJournal if a row, with an index, is not that of a line that can be recorded."""
    if not row.startswith(LINE) or not can_be_recorded(row):
        raise BadJournal(at)


def resume(text):
    """Return a journal that goes on from a record, which may have been cut off."""
    rows = text.split("\n")[:-1]
    journal = Journal()
    for at, row in enumerate(rows):
        if at % 2 == 0:
            check_line(row, at)
        else:
            told = journal.answer(rows[at - 1][len(LINE):])
            if row != f"{ANSWER}{told}":
                raise BadJournal(at)
    return journal
