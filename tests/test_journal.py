"""Promises [220] to [224]: the journal."""

import unittest
from random import Random

from tallyhull.desk import Desk
from tallyhull.errors import BadJournal, OpenTrial, TallyError
from tallyhull.journal import Journal, attempt, resume
from tests.test_desk import EXAMPLE

LINES = [line for line, _ in EXAMPLE] + ["", "show", "show c", "tuple e", "show e", "  ", "drop c", "show c", "boxes a b",
                                         "matrix a 2 3", "show t", "~!", "moves t a c"]
UNRECORDED = ["\n", "a\n", "tuple c 1\n", "\t", "tuple\tc 1", "\x1f", "\x7f", "\xe4", "show \u20ac", "a\r", "\x00",
              "drop t\u2028", "\xa0"]


def record_by_hand(lines):
    """[221], by the answers of a desk."""
    desk = Desk()
    return "".join(f"> {line}\n< {desk.answer(line)}\n" for line in lines)


def journal_of(lines):
    journal = Journal()
    for line in lines:
        journal.answer(line)
    return journal


class Records(unittest.TestCase):
    """[220] and [221]"""

    def test_answers_and_record(self):
        journal = Journal()
        desk = Desk()
        self.assertEqual(journal.record(), "")
        self.assertEqual(journal.lines(), [])
        for k, line in enumerate(LINES):
            self.assertEqual(journal.answer(line), desk.answer(line))
            self.assertEqual(journal.record(), record_by_hand(LINES[:k + 1]))
            self.assertEqual(journal.lines(), LINES[:k + 1])

    def test_told(self):
        journal = journal_of(["tuple c 0 0 1", "", "show c", "tuple e", "show e"])
        self.assertEqual(journal.record(), "> tuple c 0 0 1\n< ok\n> \n< bad\n> show c\n< 0 0 1\n"
                                           "> tuple e\n< ok\n> show e\n< \n")

    def test_lines_that_cannot_be_recorded(self):
        for line in UNRECORDED:
            journal = journal_of(["tuple c 5", "tuple t 6"])
            before = journal.record()
            self.assertEqual(journal.answer(line), "bad")
            self.assertEqual(journal.record(), before)
            self.assertEqual(journal.lines(), ["tuple c 5", "tuple t 6"])
            self.assertEqual(journal.answer("show c"), "5")
            self.assertEqual(journal.answer("show t"), "6")
        self.assertEqual(journal_of(["\n"]).record(), "")

    def test_journals_are_apart(self):
        one, other = journal_of(["tuple c 5"]), Journal()
        self.assertEqual(other.answer("show c"), "unknown c")
        self.assertEqual(one.answer("show c"), "5")

    def test_fresh_lists(self):
        journal = journal_of(LINES)
        once = journal.lines()
        once.clear()
        self.assertEqual(journal.lines(), LINES)


class Resumed(unittest.TestCase):
    """[222] and [223]"""

    def check_same(self, found, lines):
        """It has these lines, and goes on as a journal that was given them."""
        self.assertIsInstance(found, Journal)
        other = journal_of(lines)
        self.assertEqual(found.record(), other.record())
        self.assertEqual(found.lines(), lines)
        for line in LINES:
            self.assertEqual(found.answer(line), other.answer(line))
        self.assertEqual(found.record(), other.record())

    def test_cut_off_at_each_place(self):
        record = record_by_hand(LINES)
        for cut in range(len(record) + 1):
            text = record[:cut]
            found = resume(text)
            pairs = text.count("\n") // 2
            self.assertEqual(found.record(), record_by_hand(LINES[:pairs]))
            self.assertTrue(len(found.record()) <= cut)
            for line in LINES[pairs:]:
                found.answer(line)
            self.assertEqual(found.record(), record)

    def test_goes_on(self):
        for k in range(len(LINES) + 1):
            self.check_same(resume(record_by_hand(LINES[:k])), LINES[:k])

    def test_what_stands_behind_the_last_newline(self):
        record = record_by_hand(LINES[:3])
        for rest in ["x", "> ", "> show c", "< ok", ">", "\x00", "\xe4", "< 1 0 1 > 0 2 0"]:
            self.check_same(resume(record + rest), LINES[:3])
            self.check_same(resume(rest), [])
        # The line behind the pairs is checked, but neither passed on nor recorded.
        self.check_same(resume(record + "> drop c\n"), LINES[:3])
        self.check_same(resume(record + "> \n< ba"), LINES[:3])
        self.check_same(resume("> tuple c 1\n"), [])
        self.check_same(resume(""), [])

    def check_bad(self, text, row):
        with self.assertRaises(BadJournal) as caught:
            resume(text)
        self.assertEqual(caught.exception.row, row)
        self.assertIsInstance(caught.exception, TallyError)

    def test_rows_that_are_changed(self):
        rows = record_by_hand(LINES).split("\n")[:-1]
        for k, row in enumerate(rows):
            wrong = ["", row[1:], row[2:], "x" + row, " " + row, ("<" if k % 2 == 0 else ">") + row[1:], row[0] + row[2:],
                     row[0] + "x" + row[2:], row + "\t", row + "\xe4", "\x7f" + row, row + "\r", row[:2] + "\x00"]
            if k % 2:
                wrong += [row + " ", row + "x", "< ", "< BAD", "< none", row[:-1]] if row != "< " else [row + " ", row + "x"]
            for other in wrong:
                # Another line of spaces is as bad as this one.
                if other != row and other.strip(" ") != ">":
                    text = "\n".join(rows[:k] + [other] + rows[k + 1:]) + "\n"
                    self.check_bad(text, k)
                    # Nothing behind it matters, and neither does a missing answer.
                    self.check_bad("\n".join(rows[:k] + [other]) + "\n", k)
                    self.check_bad(text + "x", k)

    def test_which_row_is_told(self):
        for text, row in [
                ("\n", 0), ("x\n", 0), ("<\n", 0), (">\n", 0), ("> \n\n", 1), ("> \n< ok\n", 1), ("> \n> \n", 1),
                ("> \n< bad\n\n", 2), ("> \n< bad\n< bad\n", 2), ("> tuple c 1\n< ok\n> show c\n< 2\n", 3),
                ("> show c\n< 1\n> tuple c 1\n< ok\n", 1), ("> tuple c 1\n< ok\n> tuple c 1\n< bad\nx\n", 3),
                ("> a\tb\n< bad\n", 0), ("> \xe4\n< bad\n", 0), ("> tuple c 1\n< ok\n>show c\n", 2), ("> a\r\n< bad\n", 0),
                ("> tuple c 1\n<ok\n", 1), ("> tuple c 1\n<  ok\n", 1), ("> tuple c 1\nok\n", 1), ("> \x7f\n", 0)]:
            with self.subTest(text=text):
                self.check_bad(text, row)

    def test_a_record_of_another_desk(self):
        record = record_by_hand(LINES)
        self.check_bad(record[record.index("> testset"):], 1)

    def test_mixed_journals(self):
        source = Random(223)
        for _ in range(20):
            lines = [source.choice(LINES + UNRECORDED) for _ in range(source.randint(0, 12))]
            recorded = [line for line in lines if line not in UNRECORDED]
            journal = journal_of(lines)
            self.assertEqual(journal.record(), record_by_hand(recorded))
            self.check_same(resume(journal.record()), recorded)


class Trials(unittest.TestCase):
    """[224]"""

    def start(self):
        return journal_of(["tuple c 5", "matrix a 1 1"])

    def check_as_before(self, journal):
        self.assertEqual(journal.record(), record_by_hand(["tuple c 5", "matrix a 1 1"]))
        self.assertEqual(journal.lines(), ["tuple c 5", "matrix a 1 1"])
        self.assertEqual(journal.answer("show c"), "5")
        self.assertEqual(journal.answer("show d"), "unknown d")
        self.assertEqual(journal.answer("show a"), "1 1")

    def test_taken_back(self):
        journal = self.start()
        with journal as trial:
            self.assertIs(trial, journal)
            self.assertEqual(trial.answer("tuple c 6"), "ok")
            self.assertEqual(trial.answer("tuple d 7"), "ok")
            self.assertEqual(trial.answer("drop a"), "ok")
            self.assertEqual(trial.answer("show c"), "6")
            self.assertEqual(trial.lines(), ["tuple c 5", "matrix a 1 1", "tuple c 6", "tuple d 7", "drop a", "show c"])
            self.assertEqual(trial.record(), record_by_hand(trial.lines()))
        self.check_as_before(journal)

    def test_kept(self):
        for order in range(3):
            journal = self.start()
            with journal as trial:
                for k, line in enumerate(["tuple c 6", "tuple d 7", "drop a"]):
                    if k == order:
                        trial.keep()
                    trial.answer(line)
            self.assertEqual(journal.record(), record_by_hand(
                ["tuple c 5", "matrix a 1 1", "tuple c 6", "tuple d 7", "drop a"]))
            self.assertEqual([journal.answer(f"show {name}") for name in "cda"], ["6", "7", "unknown a"])
        journal = self.start()
        with journal as trial:
            trial.answer("tuple c 6")
            trial.keep()
            trial.keep()
        self.assertEqual(journal.answer("show c"), "6")

    def test_left_by_an_exception(self):
        for keep in (False, True):
            for error in (ValueError, KeyError, OpenTrial, BadJournal, KeyboardInterrupt):
                journal = self.start()
                with self.assertRaises(error):
                    with journal as trial:
                        trial.answer("tuple c 6")
                        if keep:
                            trial.keep()
                        trial.answer("tuple d 6")
                        raise error(1)
                self.check_as_before(journal)
                # And another one may be opened, in which keep was not called.
                with journal as trial:
                    trial.answer("tuple c 6")
                self.assertEqual(journal.answer("show c"), "5")

    def test_one_after_the_other(self):
        journal = self.start()
        for k in range(4):
            with journal as trial:
                trial.answer(f"tuple c {k}")
                if k == 2:
                    trial.keep()
            self.assertEqual(journal.answer("show c"), "2" if k >= 2 else "5")

    def test_opened_while_one_is_open(self):
        for keep in (False, True):
            journal = self.start()
            with journal as trial:
                trial.answer("tuple c 6")
                with self.assertRaises(OpenTrial):
                    with journal:
                        self.fail()
                with self.assertRaises(OpenTrial):
                    attempt(journal, ["tuple c 8"])
                with self.assertRaises(OpenTrial):
                    attempt(journal, ["tuple c 8"], keep=True)
                # The open one goes on.
                self.assertEqual(trial.answer("show c"), "6")
                trial.answer("tuple d 7")
                if keep:
                    trial.keep()
                with self.assertRaises(OpenTrial):
                    with journal:
                        self.fail()
            if keep:
                self.assertEqual(journal.lines(), ["tuple c 5", "matrix a 1 1", "tuple c 6", "show c", "tuple d 7"])
                self.assertEqual(journal.answer("show d"), "7")
            else:
                self.check_as_before(journal)

    def test_trials_of_two_journals(self):
        one, other = self.start(), self.start()
        with one as first:
            with other as second:
                first.answer("tuple c 1")
                second.answer("tuple c 2")
                second.keep()
            self.assertEqual(other.answer("show c"), "2")
            self.assertEqual(first.answer("show c"), "1")
        self.assertEqual(one.answer("show c"), "5")

    def test_keep_without_a_trial(self):
        journal = self.start()
        with self.assertRaises(OpenTrial):
            journal.keep()
        with journal:
            pass
        with self.assertRaises(OpenTrial):
            journal.keep()
        with journal as trial:
            trial.keep()
        with self.assertRaises(OpenTrial):
            journal.keep()
        # What was kept once is not kept the next time.
        with journal as trial:
            trial.answer("tuple c 9")
        self.check_as_before(journal)

    def test_attempt(self):
        lines = ["tuple c 6", "show c", "", "a\tb", "drop x"]
        told = ["ok", "6", "bad", "bad", "unknown x"]
        recorded = ["tuple c 5", "matrix a 1 1"] + [line for line in lines if line != "a\tb"]
        for keep in (False, True):
            journal = self.start()
            found = attempt(journal, lines, keep=keep)
            self.assertIsInstance(found, tuple)
            self.assertEqual(found, (told, record_by_hand(recorded)))
            self.assertIsInstance(found[0], list)
            if keep:
                self.assertEqual(journal.record(), record_by_hand(recorded))
                self.assertEqual(journal.answer("show c"), "6")
            else:
                self.check_as_before(journal)
        self.assertEqual(lines, ["tuple c 6", "show c", "", "a\tb", "drop x"])
        journal = self.start()
        self.assertEqual(attempt(journal, lines), (told, record_by_hand(recorded)))
        self.check_as_before(journal)
        self.assertEqual(attempt(Journal(), []), ([], ""))

    def test_a_resumed_journal_has_trials(self):
        journal = resume(record_by_hand(["tuple c 5", "matrix a 1 1"]))
        with journal as trial:
            trial.answer("drop c")
        self.check_as_before(journal)

    def test_lists_of_moves_stay(self):
        journal = journal_of(["matrix a 1 1 1 / 0 1 2", "tuple c 0 0 1", "testset t a c"])
        with journal as trial:
            self.assertEqual(trial.answer("moves t a c empty"), "0")
            self.assertEqual(trial.answer("drop c"), "ok")
        self.assertEqual(journal.answer("show t"), "1 0 1 > 0 2 0")
        self.assertEqual(journal.answer("isset a c t"), "yes")


if __name__ == "__main__":
    unittest.main()
