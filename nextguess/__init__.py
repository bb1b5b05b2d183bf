"""Nextguess: the answer that is not shown, guessed as well as can be."""
