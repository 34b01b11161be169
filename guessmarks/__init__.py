"""Guessmarks: hidden words and marked guesses."""
