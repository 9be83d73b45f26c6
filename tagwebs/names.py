"""Names of places, states and other things."""

LETTERS = "abcdefghijklmnopqrstuvwxyz"


def is_name(text):
    """True if the string is a name: 1 to 8 letters from a to z."""
    return 1 <= len(text) <= 8 and all([sign in LETTERS for sign in text])
