"""Names of fields and ditches."""

LETTERS = "abcdefghijklmnopqrstuvwxyz"
LONGEST_NAME = 8


def is_name(text):
    """True where the text is a name: 1 to 8 letters a to z."""
    if text == "" or len(text) > LONGEST_NAME:
        return False
    return all([sign in LETTERS for sign in text])
