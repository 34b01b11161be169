"""Class Console (points [2] to [5]; interface, guessmarks/console.py)."""

import unittest
from random import Random

from guessmarks import console as console_module
from guessmarks.boards import Board
from guessmarks.console import Console
from guessmarks.counting import count
from guessmarks.errors import InvalidLine, NotABoard
from guessmarks.games import Game
from guessmarks.guessing import worst_answer
from guessmarks.histories import History
from guessmarks.tables import table
from tests.support import (ALPHABET, Agreeing, Raising, all_marks, all_words, counted_answers, marks_by_definition,
                           nested, no_histories, refuses_value, strange_objects, table_of_words, words_that_fit)

BOARD = Board("abc", 3)
LARGEST = Board(ALPHABET, 6)

# Lines that have one of the forms, with signs that no board knows.
FORMED = ["add aab 210", "add x y", "add abc 012345", "add \u00e4 \u00e9", "add a\tb c\nd", "add 0 -1", "drop 0",
          "drop 7", "drop 10", "drop 20", "drop 900", "drop 99999999999999999999", "drop " + "9" * 490, "undo", "count",
          "letters", "worst aab", "worst x", "worst \u00e4", "worst a\tb", "worst abcd", "show",
          "add " + "a" * 240 + " " + "0" * 240, "worst add", "add add add", "add drop 0", "worst \n"]

NO_LINES = ["", " ", "  ", "\n", "\t", "add", "add ", "add  ", "add aab", "add aab ", "add  aab 210", "add aab  210",
            "add aab 210 ", " add aab 210", "add aab 210 0", "add\taab 210", "add aab\t210", "add aab\n210",
            "Add aab 210", "ADD aab 210", "addaab 210", "add,aab,210", "drop", "drop ", "drop  0", " drop 0", "drop 0 ",
            "drop 0 0", "drop +1", "drop -1", "drop -0", "drop +0", "drop 00", "drop 01", "drop 007", "drop 1_0",
            "drop 1.0", "drop 0x1", "drop 1e1", "drop a", "drop one", "drop \u0660", "drop \u0661", "drop \u00b2",
            "drop \uff11", "drop 1\u0660", "drop 0\n", "drop \t0", "drop\t0", "drop\n0", "Drop 0", "DROP 0", "drop0",
            "drop 0,", "drop (0)", "drop True", "undo ", " undo", "undo 1", "undo 0", "undo undo", "Undo", "UNDO",
            "undo\n", "\nundo", "un do", "undo  ", "count ", " count", "count 1", "Count", "COUNT", "count\n", "counts",
            "count count", "coun", "letters ", " letters", "letters 0", "Letters", "letters\n", "letter", "letters a",
            "worst", "worst ", "worst  aab", "worst aab ", " worst aab", "worst aab aab", "Worst aab", "worst\taab",
            "worst\naab", "worstaab", "show ", " show", "show 0", "Show", "show\n", "shows", "show show", "help",
            "quit", "best aab", "table", "trial", "change", "history", "x", "0", "aab 210", "aab", "add;undo",
            "undo;undo", "\u00a0undo", "undo\u00a0", "show\r", "show\r\n", "count\x00", "coun\u0442"]


def after(board, *lines):
    """Return a console to which these lines have been said."""
    console = Console(board)
    for line in lines:
        console.say(line)
    return console


def seen(console):
    """Return what the console shows without being changed."""
    return [console.say(line) for line in ("show", "count", "letters")]


def undone(console):
    """Take everything back and return what is shown on the way."""
    shown = [console.say("show")]
    while console.say("undo") != "refused":
        shown.append(console.say("show"))
    return shown


class SayTest(unittest.TestCase):
    def test_a_new_console(self):
        for board in (BOARD, LARGEST, Board("ab", 1)):
            wanted = ["empty", str(board.size), " ".join([board.letters] * board.length)]
            self.assertEqual(seen(Console(board)), wanted)
            self.assertEqual(seen(Console(board=board)), wanted)

    def test_add(self):
        console = Console(BOARD)
        self.assertEqual(console.say("add cca 022"), "2")
        self.assertEqual(console.say(line="add aab 210"), "1")
        self.assertEqual(seen(console), ["cca 022, aab 210", "1", "a c a"])

    def test_rows_that_are_refused(self):
        for start in ([], ["add aab 210"]):
            console = after(BOARD, *start)
            before = seen(console)
            for line in ("add abc 221", "add abd 000", "add ab 00", "add abc 00", "add abc 0000", "add abc 013",
                         "add x y", "add ABC 000", "add abc\n 000", "add abc 000\n", "add \u00e4bc 000",
                         "add 000 abc", "add abc abc", "add abc \u0660\u0660\u0660",
                         "add " + "a" * 240 + " " + "0" * 240):
                self.assertEqual(console.say(line), "refused", line)
                self.assertEqual(seen(console), before)
            self.assertEqual(undone(console), ["aab 210", "empty"] if start else ["empty"])
        console = after(BOARD, "add aab 210")
        self.assertEqual(console.say("add abc 222"), "refused")
        self.assertEqual(console.say("add bbb 002"), "refused")

    def test_the_game_is_not_strict(self):
        console = after(BOARD, "add aab 210")
        self.assertEqual([console.say("add bbb 000"), console.say("show")], ["1", "aab 210, bbb 000"])

    def test_twenty_rows_and_one_more(self):
        console = Console(BOARD)
        for number in range(20):
            self.assertEqual(console.say("add aab 210"), "1")
        self.assertEqual(console.say("show"), ", ".join(["aab 210"] * 20))
        self.assertEqual([console.say("add aab 210"), console.say("add aca 222")], ["refused", "refused"])
        self.assertEqual([console.say("drop 20"), console.say("drop 19"), console.say("add aca 222")],
                         ["refused", "1", "1"])
        self.assertEqual(console.say("show"), ", ".join(["aab 210"] * 19 + ["aca 222"]))

    def test_drop_at_each_place(self):
        rows = ["aab 210", "cca 022", "bab 010", "ccc 020"]
        for many in range(5):
            for place in range(6):
                console = after(BOARD, *[f"add {row}" for row in rows[:many]])
                kept = rows[:place] + rows[place + 1:many] if place < many else rows[:many]
                left = words_that_fit(all_words("abc", 3), [tuple(row.split()) for row in kept])
                self.assertEqual(console.say(f"drop {place}"), str(len(left)) if place < many else "refused")
                self.assertEqual(console.say("show"), ", ".join(kept) or "empty")

    def test_large_places(self):
        console = after(BOARD, *["add aab 210"] * 12)
        self.assertEqual(console.say("drop 11"), "1")
        self.assertEqual(console.say("drop 10"), "1")
        for place in (10, 11, 20, 100, 10 ** 18, 10 ** 19, 10 ** 400):
            self.assertEqual(console.say(f"drop {place}"), "refused")
        self.assertEqual(console.say("show"), ", ".join(["aab 210"] * 10))

    def test_undo_until_it_is_refused(self):
        console = after(BOARD, "add cca 022", "add aab 210", "drop 0", "add bbb 000", "drop 1")
        self.assertEqual([console.say("undo") for _ in range(7)], ["1", "1", "1", "2", "27", "refused", "refused"])
        console = after(BOARD, "add cca 022", "add aab 210", "drop 0", "add bbb 000", "drop 1")
        self.assertEqual(undone(console), ["aab 210", "aab 210, bbb 000", "aab 210", "cca 022, aab 210", "cca 022",
                                           "empty"])
        self.assertEqual(seen(console), ["empty", "27", "abc abc abc"])

    def test_letters(self):
        console = after(BOARD, "add abb 100")
        self.assertEqual(console.say("letters"), "c ac ac")
        self.assertEqual(Console(Board("az", 1)).say("letters"), "az")

    def test_worst(self):
        console = after(Board("abcde", 4), "add abcd 0120", "add aaea 0010")
        self.assertEqual([console.say("worst aaaa"), console.say("worst bece")], ["0000 7", "2220 2"])
        for guess in ("abcf", "abc", "abcde", "ABCD", "0000", "x", "abc\n", "worst", "b\u00e9ce"):
            self.assertEqual(console.say(f"worst {guess}"), "refused")
        self.assertEqual(Console(LARGEST).say("worst zzzzzz"), "000000 " + str(25 ** 6))

    def test_no_line_is_taken_for_another_kind(self):
        console = after(BOARD, "add aab 210")
        for line in ("count", "letters", "worst aab", "show"):
            before = seen(console)
            console.say(line)
            self.assertEqual(seen(console), before)
        self.assertEqual(undone(console), ["aab 210", "empty"])

    def test_each_answer_is_a_string(self):
        console = Console(BOARD)
        for line in FORMED:
            self.assertIs(type(console.say(line)), str, line)

    def test_two_consoles(self):
        one, two = Console(BOARD), Console(BOARD)
        one.say("add aab 210")
        self.assertEqual([one.say("show"), two.say("show")], ["aab 210", "empty"])
        self.assertEqual([two.say("undo"), two.say("add bbb 000"), one.say("undo")], ["refused", "8", "27"])
        self.assertEqual([one.say("show"), two.say("show")], ["empty", "bbb 000"])

    def test_rounds_against_lists_of_words(self):
        choose = Random(97)
        for letters, length in [("abc", 3), ("abcd", 3), ("ab", 5)]:
            words = all_words(letters, length)
            console, rows, past = Console(Board(letters, length)), [], []
            hidden = choose.choice(words)
            for _ in range(150):
                guess = choose.choice(words)
                told = choose.choice([marks_by_definition(guess, hidden)] * 4 + [choose.choice(all_marks(length))])
                place = choose.randint(0, len(rows))
                line = choose.choice([f"add {guess} {told}"] * 3 + [f"drop {place}", "undo", "count", f"worst {guess}",
                                                                   "letters", "show"])
                self.check_line(console, line, rows, past, words)

    def check_line(self, console, line, rows, past, words):
        """Say a line of a round, compare the answer with the rows of a model, and keep the model up to date."""
        letters = "".join(sorted(set("".join(words))))
        left = words_that_fit(words, rows)
        command, *given = line.split(" ")
        changed = None
        if command == "add" and len(rows) < 20 and words_that_fit(left, [tuple(given)]):
            changed = rows + [tuple(given)]
        elif command == "drop" and int(given[0]) < len(rows):
            changed = rows[:int(given[0])] + rows[int(given[0]) + 1:]
        elif command == "undo" and past:
            changed = past[-1]
        wanted = "refused" if changed is None else str(len(words_that_fit(words, changed)))
        if command == "count":
            wanted = str(len(left))
        elif command == "letters":
            wanted = " ".join(table_of_words(letters, len(words[0]), left)[0])
        elif command == "worst":
            worst = max(counted_answers(given[0], left), key=lambda pair: pair[1])
            wanted = f"{worst[0]} {worst[1]}"
        elif command == "show":
            wanted = ", ".join(" ".join(row) for row in rows) or "empty"
        self.assertEqual(console.say(line), wanted, (line, rows))
        if changed is not None:
            if command == "undo":
                past.pop()
            else:
                past.append(rows[:])
            rows[:] = changed

    def test_rounds_on_the_largest_board(self):
        choose = Random(98)
        console, game = Console(LARGEST), Game(LARGEST)
        for _ in range(8):
            guess = "".join(choose.choices("abcletr", k=6))
            told = marks_by_definition(guess, "letter")
            game.add(guess, told)
            self.assertEqual(console.say(f"add {guess} {told}"), str(count(game.history)))
            self.assertEqual(console.say("letters").split(" "), list(table(game.history)[0]))
            marks, number = worst_answer(game.history, "tables")
            self.assertEqual(console.say("worst tables"), f"{marks} {number}")


class ErrorsTest(unittest.TestCase):
    def test_what_is_no_board(self):
        for board in [board for board in no_histories(BOARD) if not isinstance(board, Board)]:
            refuses_value(self, NotABoard, board, Console, board)
            refuses_value(self, NotABoard, board, Console, board=board)

    def test_what_is_no_line(self):
        console = after(BOARD, "add cca 022", "add bbb 000")
        before = seen(console)
        for line in NO_LINES:
            refuses_value(self, InvalidLine, line, console.say, line)
            refuses_value(self, InvalidLine, line, console.say, line=line)
        self.assertEqual(seen(console), before)
        self.assertEqual(undone(console), ["cca 022, bbb 000", "cca 022", "empty"])

    def test_lines_near_the_forms(self):
        console = after(BOARD, "add cca 022")
        for line in ("add aab 210", "drop 0", "undo", "count", "letters", "worst aab", "show"):
            for wrong in (" " + line, line + " ", line + "  ", "\t" + line, line.replace(" ", "  ") if " " in line else
                          line + " x", line.upper(), line.capitalize(), line + " " + line, line + " 0", "x" + line,
                          "x " + line, line[1:], line.replace(" ", "\t") if " " in line else line[:-1] + "\n",
                          line.replace(" ", "") if " " in line else line + "s"):
                refuses_value(self, InvalidLine, wrong, console.say, wrong)
        self.assertEqual(console.say("show"), "cca 022")

    def test_other_objects(self):
        console = after(BOARD, "add cca 022")
        for line in strange_objects() + [0, 1, -1, 10 ** 19, ("undo",), ["undo"], ("add", "aab", "210"), ("drop", 0),
                                         ["add", "aab", "210"], {"undo": 1}, b"undo", b"count", ("count",), BOARD,
                                         History(BOARD), Agreeing(), Raising(), console, Console, nested(15)]:
            refuses_value(self, InvalidLine, line, console.say, line)
        self.assertEqual(seen(console), seen(after(BOARD, "add cca 022")))

    def test_the_class_is_defined_where_it_is_listed(self):
        self.assertEqual(Console.__module__, "guessmarks.console")
        self.assertIs(console_module.Console, Console)
        for name in ("__init__", "say"):
            self.assertIn(name, vars(Console))


if __name__ == "__main__":
    unittest.main()
