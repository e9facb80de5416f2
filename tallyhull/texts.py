"""The texts of fractions, tuples, matrices and lists of moves, and how they are read."""

from tallyhull.errors import BadNumber, Malformed
from tallyhull.farkas import is_lowest
from tallyhull.lines import FIGURES
from tallyhull.matrices import check_cost, check_matrix, check_pointed
from tallyhull.moves import check_listed, check_moves

MOST_FIGURES = 20
EMPTY = "empty"


def ratio_text(number):
    """Return the text of a fraction."""
    if not is_lowest(number):
        raise BadNumber("the pair is no fraction in lowest terms")
    above, below = number
    return str(above) if below == 1 else f"{above}/{below}"


def tuple_text(numbers):
    """Return the text of a tuple of integers."""
    return " ".join([str(number) for number in numbers])


def joined(texts):
    """Return texts as one, with a stroke between them, or the text for none."""
    return " / ".join(texts) if texts else EMPTY


def list_text(tuples):
    """Return the text of a list of tuples of integers."""
    return joined([tuple_text(numbers) for numbers in tuples])


def matrix_text(matrix):
    """Return the text of a matrix."""
    check_matrix(matrix)
    return list_text(matrix)


def plain_moves_text(moves):
    """Return the text of a list of moves, whatever matrix and cost they are moves of."""
    return joined([f"{tuple_text(head)} > {tuple_text(tail)}" for head, tail in moves])


def moves_text(matrix, cost, moves):
    """Return the text of a list of moves."""
    check_moves(matrix, cost, moves)
    return plain_moves_text(moves)


def words_in(text):
    """Return the list of what stands between spaces."""
    return text.split(" ") if text else []


def is_number(word):
    """Return whether a word is the text of an integer with at most 20 figures."""
    figures = word[1:] if word.startswith("-") else word
    if not 1 <= len(figures) <= MOST_FIGURES or not all(sign in FIGURES for sign in figures):
        return False
    return word == "0" or not figures.startswith("0")


def integers_at(words, at, many):
    """Return the tuple of the integers that so many words from an index on must be."""
    for k in range(at, at + many):
        if k >= len(words) or not is_number(words[k]):
            raise Malformed(k)
    return tuple(int(word) for word in words[at:at + many])


def check_sign(words, at, sign):
    """Raise Malformed if a sign does not stand where it is due."""
    if at >= len(words) or words[at] != sign:
        raise Malformed(at)


def read_tuple(text):
    """Return the tuple with a text."""
    words = words_in(text)
    return integers_at(words, 0, len(words))


def read_matrix(text):
    """Return the matrix with a text."""
    words = words_in(text)
    # Without a word ahead of the first stroke an integer is due that does not stand there.
    many = max(1, words.index("/") if "/" in words else len(words))
    rows = [integers_at(words, 0, many)]
    at = many
    while at < len(words):
        check_sign(words, at, "/")
        rows.append(integers_at(words, at + 1, many))
        at = at + many + 1
    matrix = tuple(rows)
    check_matrix(matrix)
    return matrix


def move_at(words, at, many):
    """Return the pair of a head and a tail, of so many integers, that must stand at an index."""
    head = integers_at(words, at, many)
    check_sign(words, at + many, ">")
    return head, integers_at(words, at + many + 1, many)


def read_moves(matrix, cost, text):
    """Return the list of moves with a text."""
    check_pointed(matrix)
    check_cost(matrix, cost)
    if text == EMPTY:
        return []
    words = words_in(text)
    many = len(matrix[0])
    moves = [move_at(words, 0, many)]
    at = 2 * many + 1
    while at < len(words):
        check_sign(words, at, "/")
        moves.append(move_at(words, at + 1, many))
        at = at + 2 * many + 2
    check_listed(matrix, cost, moves)
    return moves
