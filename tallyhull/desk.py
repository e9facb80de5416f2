"""The desk: it keeps matrices, tuples and lists of moves by names, and answers lines of text."""

from tallyhull.commands import told_by, wanted_by
from tallyhull.errors import TallyError
from tallyhull.lines import is_name, number_in, words_of
from tallyhull.testsets import least_test_set
from tallyhull.texts import list_text, plain_moves_text, read_matrix, read_moves, read_tuple, tuple_text

# What the commands want that put something under a name, take it away or show it; the letters
# are those of the other commands.
KEEPING = {
    "matrix": "NU", "tuple": "NU", "moves": "NMTU", "testset": "NMT", "drop": "A", "show": "A",
}


def wanted_of(command):
    """Return what a command wants, or None if there is no such command."""
    return KEEPING[command] if command in KEEPING else wanted_by(command)


def has_form(kind, word):
    """Return whether a word can stand where a kind of word is wanted."""
    return number_in(word) is not None if kind == "X" else is_name(word)


def has_forms(wanted, words):
    """Return whether words are as many as wanted, and can stand where they do."""
    kinds = wanted.replace("U", "")
    if len(words) < len(kinds) or (len(words) > len(kinds) and kinds == wanted):
        return False
    return all(has_form(kind, word) for kind, word in zip(kinds, words))


def text_of(kind, thing):
    """Return the text of a thing of a kind."""
    if kind == "L":
        return plain_moves_text(thing)
    return list_text(thing) if kind == "M" else tuple_text(thing)


class Desk:
    """Things by names, each told by its kind, M, T or L, and itself; and answers to lines."""

    def __init__(self):
        self.things = {}

    def answer(self, line):
        """Return the answer to a line, and change the desk as it tells."""
        words = words_of(line)
        wanted = None if words is None else wanted_of(words[0])
        if wanted is None or not has_forms(wanted, words[1:]):
            return "bad"
        named = [(kind, word) for kind, word in zip(wanted, words[1:]) if kind in "MTLA"]
        for _, word in named:
            if word not in self.things:
                return f"unknown {word}"
        if not all(kind in ("A", self.things[word][0]) for kind, word in named):
            return "refused"
        try:
            return self.done(words[0], wanted, words[1:])
        except TallyError:
            return "refused"

    def done(self, command, wanted, words):
        """Carry out a command with words as wanted, and return its answer."""
        if command in KEEPING:
            given = [self.things[word][1] for kind, word in zip(wanted, words) if kind in "MT"]
            return self.kept(command, words[0], given, " ".join(words[len(wanted) - 1:]))
        return told_by(command, [number_in(word) if kind == "X" else self.things[word][1]
                                 for kind, word in zip(wanted, words)])

    def kept(self, command, name, given, text):
        """Put something under a name, take it away or show it, and return the answer."""
        if command == "drop":
            del self.things[name]
            return "ok"
        if command == "show":
            kind, thing = self.things[name]
            return text_of(kind, thing)
        if command == "tuple":
            self.things[name] = ("T", read_tuple(text))
            return "ok"
        if command == "matrix":
            matrix = read_matrix(text)
            self.things[name] = ("M", matrix)
            return f"{len(matrix)} {len(matrix[0])}"
        matrix, cost = given
        moves = least_test_set(matrix, cost) if command == "testset" else read_moves(matrix, cost, text)
        self.things[name] = ("L", moves)
        return str(len(moves))

    def answers(self, lines):
        """Return the list of the answers to several lines, in order."""
        return [self.answer(line) for line in lines]

    def copied(self):
        """Return a desk of its own with the same things."""
        other = Desk()
        other.things = {name: self.things[name] for name in self.things}
        return other

    def names(self):
        """Return the sorted list of the names that have something."""
        return sorted(self.things)

    def thing(self, name):
        """Return the matrix, the tuple or a list of the moves of a name, or None."""
        if name not in self.things:
            return None
        kind, thing = self.things[name]
        return list(thing) if kind == "L" else thing
