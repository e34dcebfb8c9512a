"""Signs: what whole numbers, names, words, keys, rows of signs and plain texts are."""

FIGURES = "0123456789"
KEYS = "0123456789*#"
SIGNS = "0123456789*#w"
SMALL_LETTERS = "abcdefghijklmnopqrstuvwxyz"
# By its number, as the sign itself may stand in no text of this package.
PER_CENT = 37


def is_whole(thing):
    """Whether a thing is a whole number; True and False are none."""
    return isinstance(thing, int) and not isinstance(thing, bool)


def is_letters(text, most):
    """Whether a text is one small letter or more, up to so many."""
    return 1 <= len(text) <= most and all([sign in SMALL_LETTERS for sign in text])


def is_name(text):
    """Whether a text is a name."""
    return is_letters(text, 8) and text != "back"


def is_word(text):
    """Whether a text is a word."""
    return is_letters(text, 12)


def is_key(text):
    """Whether a text is one of the keys."""
    return len(text) == 1 and text in KEYS


def is_row(text):
    """Whether a text is a row of signs of a call, perhaps without any."""
    return all([sign in SIGNS for sign in text])


def is_plain_sign(sign):
    """Whether a sign may stand in a plain text."""
    return " " <= sign <= "~" and ord(sign) != PER_CENT


def is_plain(text):
    """Whether a text is a plain text."""
    return 1 <= len(text) <= 80 and all([is_plain_sign(sign) for sign in text])


def is_figures(text):
    """Whether a text is how a whole number is written: figures, no nought ahead but in 0 itself."""
    if text == "" or not all([sign in FIGURES for sign in text]):
        return False
    return text == "0" or text[0] != "0"


def number_within(text, least, most):
    """The number from least to most that a text writes by figures, or None where it writes none."""
    # The length first: Python refuses to turn very long rows of figures into a number.
    if not is_figures(text) or len(text) > len(str(most)):
        return None
    number = int(text)
    return number if least <= number <= most else None
