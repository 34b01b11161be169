"""How many of the words that are left give a guess each string of marks."""

from guessmarks.words import Words, common_letters, letters_except


class Tally:
    """Counts the words that fit all rows by the marks that they give a guess.

    The words are built place by place. How a beginning can go on, and what the guess will be told then, depends
    only on the places at which it agrees with the guess and on its copies of the letters that the rows or the
    guess count. So beginnings with the same of these are counted together, under a pair (agreed, used).
    """

    def __init__(self, board, rows, guess):
        words = Words(board, rows, ())
        added = letters_except(common_letters(board.letters, guess), words.counted)
        self.guess = guess
        self.allowed = words.allowed
        self.letters = words.counted + added
        self.least = words.least + [0 for letter in added]
        self.greatest = words.greatest + [board.length for letter in added]

    def answers(self):
        """Return each string of marks that comes, with its number of words, in ascending order."""
        beginnings = {("", tuple([0 for letter in self.letters])): 1}
        for place in range(len(self.guess)):
            beginnings = self.longer(beginnings, place)
        found = {}
        for (agreed, used), ways in beginnings.items():
            told = self.marks_for(agreed, used)
            found[told] = found.get(told, 0) + ways
        return tuple(sorted(found.items()))

    def longer(self, beginnings, place):
        """Return the beginnings that are longer by the letter at the place."""
        following = {}
        for (agreed, used), ways in beginnings.items():
            for letter, many in self.choices(place):
                reached = self.used_with(used, letter)
                if reached is not None and self.owed(reached) < len(self.guess) - place:
                    mark = "2" if letter == self.guess[place] else "0"
                    beginning = (agreed + mark, reached)
                    following[beginning] = following.get(beginning, 0) + ways * many
        return following

    def choices(self, place):
        """Return each letter to count at the place with 1, and the empty string with how many others there are."""
        counted = common_letters(self.allowed[place], self.letters)
        others = len(self.allowed[place]) - len(counted)
        choices = [(letter, 1) for letter in counted]
        if others > 0:
            choices.append(("", others))
        return choices

    def used_with(self, used, letter):
        """Return the numbers of copies if this letter follows, or None if it has too many copies then."""
        if letter == "":
            return used
        at = self.letters.index(letter)
        if used[at] < self.most_used(at):
            return used[:at] + (used[at] + 1,) + used[at + 1:]
        return used if self.greatest[at] == len(self.guess) else None

    def most_used(self, at):
        """Return up to which number the copies of this letter are counted."""
        if self.greatest[at] < len(self.guess):
            return self.greatest[at]
        # More copies of a letter without a greatest number make no difference.
        return max(self.least[at], self.guess.count(self.letters[at]))

    def owed(self, used):
        """Return how many letters still have to follow."""
        return sum([max(0, least - number) for least, number in zip(self.least, used)])

    def marks_for(self, agreed, used):
        """Return the marks of the guess for words with these numbers of copies that agree at these places."""
        unmatched = dict(zip(self.letters, used))
        for letter, mark in zip(self.guess, agreed):
            if mark == "2":
                unmatched[letter] -= 1
        told = ""
        for letter, mark in zip(self.guess, agreed):
            if mark == "0" and unmatched[letter] > 0:
                unmatched[letter] -= 1
                told += "1"
            else:
                told += mark
        return told
