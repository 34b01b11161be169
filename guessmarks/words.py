"""The words that fit rows and have facts, counted and found without a list of them."""

from guessmarks.bounds import Bounds, is_in_order


class Words:
    """The words of a board that fit all rows and have all facts.

    They are the words that keep to the raw bounds, unless a row is not in order, which no word fits.
    They can be too many for a list. How a word can go on behind some letters depends only on how many
    copies of a few letters it already has, so the ways to go on are counted once for these numbers.
    """

    def __init__(self, board, rows, facts):
        bounds = Bounds(board, rows, facts)
        usable = "".join([letter for letter in board.letters if bounds.greatest[letter] > 0])
        if not all([is_in_order(guess, told) for guess, told in rows]):
            usable = ""
        self.allowed = [common_letters(letters, usable) for letters in bounds.allowed]
        self.counted = counted_letters(board, bounds)
        self.least = [bounds.least[letter] for letter in self.counted]
        self.greatest = [bounds.greatest[letter] for letter in self.counted]
        self.known = {}

    def many(self):
        """Return how many words there are."""
        return self.many_from(0, self.none_used())

    def nth(self, number):
        """Return the word with this number in ascending order; there must be one."""
        word = ""
        used = self.none_used()
        rest = number
        while len(word) < len(self.allowed):
            letter, rest = self.letter_at(len(word), used, rest)
            used = self.used_with(used, letter)
            word += letter
        return word

    def place_of_word(self, word):
        """Return the number of the word, which must be one of these, in ascending order."""
        used = self.none_used()
        total = 0
        for place, letter in enumerate(word):
            smaller = [other for other in self.allowed[place] if other < letter]
            total += sum([self.many_with(place, used, other) for other in smaller])
            used = self.used_with(used, letter)
        return total

    def none_used(self):
        """Return the numbers of copies of the counted letters in front of the first place."""
        return tuple([0 for letter in self.counted])

    def used_with(self, used, letter):
        """Return the numbers of copies of the counted letters if this letter follows."""
        at = self.counted.find(letter)
        if at < 0:
            return used
        return used[:at] + (used[at] + 1,) + used[at + 1:]

    def letter_at(self, place, used, number):
        """Return the letter at the place in the word with this number, and the number behind it.

        Only words that have the same letters in front of the place are numbered.
        """
        letters = self.allowed[place]
        at = 0
        rest = number
        many = self.many_with(place, used, letters[at])
        while rest >= many:
            rest -= many
            at += 1
            many = self.many_with(place, used, letters[at])
        return letters[at], rest

    def many_with(self, place, used, letter):
        """Return in how many ways a word can go on that has this letter at the place."""
        at = self.counted.find(letter)
        if at >= 0 and used[at] == self.greatest[at]:
            return 0
        return self.many_from(place + 1, self.used_with(used, letter))

    def many_from(self, place, used):
        """Return in how many ways a word can go on from the place."""
        owed = sum([max(0, least - number) for least, number in zip(self.least, used)])
        if owed > len(self.allowed) - place:
            return 0
        if place == len(self.allowed):
            return 1
        state = (place, used)
        if state not in self.known:
            self.known[state] = self.add_ways(place, used)
        return self.known[state]

    def add_ways(self, place, used):
        """Add up the ways to go on over the letters of the place."""
        counted = common_letters(self.allowed[place], self.counted)
        total = sum([self.many_with(place, used, letter) for letter in counted])
        others = len(self.allowed[place]) - len(counted)
        if others > 0:
            total += others * self.many_from(place + 1, used)
        return total


def counted_letters(board, bounds):
    """Return the letters whose copies have to be counted as a word grows."""
    counted = ""
    for letter in board.letters:
        if bounds.least[letter] > 0 or 0 < bounds.greatest[letter] < board.length:
            counted += letter
    return counted


def common_letters(letters, others):
    """Return those of the letters that are among the others."""
    return "".join([letter for letter in letters if letter in others])


def letters_except(letters, others):
    """Return those of the letters that are not among the others."""
    return "".join([letter for letter in letters if letter not in others])


def has_word(board, rows, facts):
    """Tell whether a word of the board fits all rows and has all facts."""
    return Words(board, rows, facts).many() > 0
