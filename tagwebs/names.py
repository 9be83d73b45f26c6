"""Names of places, states and other things."""

LETTERS = "abcdefghijklmnopqrstuvwxyz"


def is_name(text):
    """True if the string is a name: 1 to 8 letters from a to z."""
    return 1 <= len(text) <= 8 and all([sign in LETTERS for sign in text])


def numbered_name(number):
    """The name with this number, not below 0, in the row a to z, aa to az, ba and so on."""
    letters = LETTERS[number % 26]
    while number >= 26:
        number = number // 26 - 1
        letters = LETTERS[number % 26] + letters
    return letters
