"""Raw bounds: what rows and facts allow at each place, and how many copies they ask of each letter."""


class Bounds:
    """The raw bounds of rows and facts, which are known to be rows and facts of the board."""

    def __init__(self, board, rows, facts):
        self.allowed = [board.letters for place in range(board.length)]
        self.least = {letter: 0 for letter in board.letters}
        self.greatest = {letter: board.length for letter in board.letters}
        for guess, told in rows:
            self.take_row(guess, told)
        for fact in facts:
            self.take_fact(fact)

    def take_row(self, guess, told):
        """Narrow the bounds by a row."""
        for place, letter in enumerate(guess):
            if told[place] == "2":
                self.keep_only(place, letter)
            else:
                self.leave_out(place, letter)
        for letter in guess:
            given = marks_given(guess, told, letter)
            found = len(given) - given.count("0")
            self.ask_least(letter, found)
            if "0" in given:
                self.ask_most(letter, found)

    def take_fact(self, fact):
        """Narrow the bounds by a fact."""
        kind, first, second = fact
        if kind == "at":
            self.keep_only(first, second)
        elif kind == "not":
            self.leave_out(first, second)
        elif kind == "least":
            self.ask_least(first, second)
        else:
            self.ask_most(first, second)

    def keep_only(self, place, letter):
        """Allow no other letter at the place."""
        self.allowed[place] = letter if letter in self.allowed[place] else ""

    def leave_out(self, place, letter):
        """Do not allow the letter at the place."""
        self.allowed[place] = self.allowed[place].replace(letter, "")

    def ask_least(self, letter, many):
        """Ask for at least so many copies of the letter."""
        self.least[letter] = max(self.least[letter], many)

    def ask_most(self, letter, many):
        """Ask for at most so many copies of the letter."""
        self.greatest[letter] = min(self.greatest[letter], many)

    def of_letter(self, letter):
        """Return all that the bounds say of the letter, in a form that does not name it."""
        places = tuple([letter in letters for letters in self.allowed])
        return (places, self.least[letter], self.greatest[letter])


def marks_given(guess, told, letter):
    """Return the marks of the copies of the letter in the guess, from left to right."""
    return "".join([mark for guessed, mark in zip(guess, told) if guessed == letter])


def is_in_order(guess, told):
    """Tell whether no copy of a letter is marked 0 to the left of one that is marked 1."""
    return all(["01" not in marks_given(guess, told, letter).replace("2", "") for letter in guess])
