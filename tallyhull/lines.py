"""Lines of text: their words, names, and numbers among them."""

LONGEST_NAME = 12
FIGURES = "0123456789"


def is_line(line):
    """Return whether a string is one or more words with one space between them."""
    if not line or line.startswith(" ") or line.endswith(" ") or "  " in line:
        return False
    return all(" " <= sign <= "~" for sign in line)


def words_of(line):
    """Return the list of the words of a line, or None if it is malformed."""
    return line.split(" ") if is_line(line) else None


def is_name(word):
    """Return whether a string is 1 to 12 small letters."""
    return 1 <= len(word) <= LONGEST_NAME and all("a" <= sign <= "z" for sign in word)


def number_in(word):
    """Return the integer from 0 to 99 that a string tells, or None."""
    if not 1 <= len(word) <= 2 or not all(sign in FIGURES for sign in word):
        return None
    if len(word) == 2 and word.startswith("0"):
        return None
    return int(word)
