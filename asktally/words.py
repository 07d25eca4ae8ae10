"""What is a name, and what are figures."""

LETTERS = "abcdefghijklmnopqrstuvwxyz"
FIGURES = "0123456789"
KEPT_WORDS = ("yes", "no", "not", "and", "or", "odd", "same", "round", "due", "asked", "true", "coin")
LONGEST_NAME = 6
MOST_FIGURES = 12


# Python's isalpha and isdigit take signs of other scripts too, so the signs are looked up.
def is_name(text):
    if len(text) < 1 or len(text) > LONGEST_NAME or text in KEPT_WORDS:
        return False
    return all([sign in LETTERS for sign in text])


def is_figures(text):
    if len(text) < 1 or len(text) > MOST_FIGURES:
        return False
    if len(text) > 1 and text.startswith("0"):
        return False
    return all([sign in FIGURES for sign in text])
