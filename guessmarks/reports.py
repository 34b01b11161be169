"""Reports: tables and answers as texts."""

from guessmarks.guessing import answers
from guessmarks.tables import table


def table_text(history):
    """Return the table as a text, a line for each place and then one for each letter."""
    told = table(history)
    if told is None:
        return "none"
    letters, bounds = told
    lines = [f"{place}: {there}" for place, there in enumerate(letters)]
    for letter, (least, greatest) in zip(history.board.letters, bounds):
        lines.append(f"{letter}: {least}-{greatest}")
    return "\n".join(lines)


def answer_text(history, guess):
    """Return the answers of the guess as a text, a line for each."""
    return "\n".join([f"{told} {number}" for told, number in answers(history, guess)])
