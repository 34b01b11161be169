"""Pairs of words that a list of guesses marks alike and that something else tells apart."""

from guessmarks.words import letters_except


class Pairs:
    """The search for two words that are alike in what is tried and not alike in what is asked.

    Both are pairs (letters, numbers) as `tried` returns them. Marks tell of a word at which places it has
    which of the letters that are tried there, and how many copies of each letter it has, up to the number that
    is tried. So two words are marked alike if at each place at which they differ both have untried letters,
    and if both have at least the tried number of each letter of which they have different numbers.

    The places at which two such words differ make up rings, in which each place gets the letter of the next
    one, and chains, which are open: the word loses a copy of one end and gains a copy of the other end.
    Changing the rings and chains one after another gives words that are all marked alike, and one of the
    changes is seen by what is asked. So it is enough to look for a single ring or chain that is seen.
    """

    def __init__(self, board, tried, asked):
        self.letters = board.letters
        self.length = board.length
        self.untried = [letters_except(board.letters, letters) for letters in tried[0]]
        self.copies = dict(zip(board.letters, tried[1]))
        self.asked_letters = asked[0]
        self.asked_copies = dict(zip(board.letters, asked[1]))

    def first_pair(self):
        """Return the first pair of such words that is found, or None if there is none."""
        for place in range(self.length):
            pair = self.pair_seen_at(place)
            if pair is not None:
                return pair
        for letter in self.letters:
            if self.asked_copies[letter] > self.copies[letter]:
                pair = self.pair_seen_by_copies(letter)
                if pair is not None:
                    return pair
        return None

    def pair_seen_at(self, place):
        """Return a pair of which one word has a letter at the place that is asked there, or None."""
        ways = {letter: self.ways_from(letter, place) for letter in self.untried[place]}
        for letter in ways:
            if letter in self.asked_letters[place]:
                for other in ways:
                    pair = self.pair_with(place, letter, other, ways)
                    if pair is not None:
                        return pair
        return None

    def pair_with(self, place, letter, other, ways):
        """Return a pair that has these letters at the place, or None."""
        if letter == other:
            return None
        if other in ways[letter]:
            return self.pair_of(ways[letter][other] + ((place, other, letter),), letter, other)
        # No way leads from one letter to the other, so their ways have no place in common.
        first = self.nearest_end(ways[letter])
        last = self.nearest_end(ways[other])
        steps = turned_round(ways[letter][first]) + ((place, letter, other),) + ways[other][last]
        return self.chain_pair(steps, first, last)

    def pair_seen_by_copies(self, letter):
        """Return a pair of which only one word has one more copy of the letter than is tried, or None."""
        ways = self.ways_from(letter, None)
        others = {other: ways[other] for other in ways if other != letter}
        if not others:
            return None
        last = self.nearest_end(others)
        return self.chain_pair(others[last], letter, last)

    def ways_from(self, start, barred):
        """Return the shortest way from the letter to each letter within reach, without the barred place.

        A way is a tuple of steps (place, letter, next letter). No shortest way uses a place twice, as a place
        leads from each of its untried letters to every other one.
        """
        ways = {start: ()}
        reached = [start]
        passed = [barred]
        at = 0
        while at < len(reached):
            for place, letters in enumerate(self.untried):
                if reached[at] in letters and place not in passed:
                    passed.append(place)
                    for letter in letters_except(letters, ways):
                        ways[letter] = ways[reached[at]] + ((place, reached[at], letter),)
                        reached.append(letter)
            at += 1
        return ways

    def nearest_end(self, ways):
        """Return the letter at which a chain can end with the fewest places taken up."""
        return min(list(ways), key=lambda letter: self.copies[letter] + len(ways[letter]))

    def chain_pair(self, steps, first, last):
        """Return the pair of a chain, or None if the other places are too few for the copies of its ends."""
        if self.copies[first] + self.copies[last] + len(steps) > self.length:
            return None
        return self.pair_of(steps, first, last)

    def pair_of(self, steps, first, last):
        """Return the words before and behind the steps, with copies of the ends at all other places.

        The first end gets just as many copies as are tried, so one copy more is seen if it is asked.
        """
        one = {place: letter for place, letter, following in steps}
        two = {place: following for place, letter, following in steps}
        others = [place for place in range(self.length) if place not in one]
        for at, place in enumerate(others):
            one[place] = two[place] = first if at < self.copies[first] else last
        return self.word_of(one), self.word_of(two)

    def word_of(self, letters):
        """Return the word with these letters at its places."""
        return "".join([letters[place] for place in range(self.length)])


def turned_round(steps):
    """Return the steps that lead back."""
    return tuple([(place, following, letter) for place, letter, following in steps[::-1]])
