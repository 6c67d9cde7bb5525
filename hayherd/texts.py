"""Rows as texts, and back."""

from hayherd.errors import BadText

FIGURES = "0123456789"
# Python refuses to read or write some thousands of figures at once, so numbers go by so many of them.
STEP_FIGURES = 18
STEP = 10 ** 18


def number_text(number):
    """The figures of a number of any size, `-` ahead of those below 0."""
    left = abs(number)
    parts = []
    while left >= STEP:
        left, part = divmod(left, STEP)
        parts.append(str(part).zfill(STEP_FIGURES))
    parts.append(str(left))
    sign = "-" if number < 0 else ""
    return sign + "".join(parts[::-1])


def number_in(word):
    """The number of any size whose text it is."""
    figures = word.removeprefix("-")
    cut = len(figures) % STEP_FIGURES
    number = int("0" + figures[:cut])
    for at in range(cut, len(figures), STEP_FIGURES):
        number = number * STEP + int(figures[at:at + STEP_FIGURES])
    return -number if word.startswith("-") else number


def is_figures(word):
    """Whether a word is plain figures, with no nought ahead but 0 itself."""
    if word == "" or not all([sign in FIGURES for sign in word]):
        return False
    return word == "0" or not word.startswith("0")


def is_number_text(word):
    """Whether a word is a number's text; 0 has no `-`."""
    return is_figures(word.removeprefix("-")) and word != "-0"


def is_beast_text(word):
    strength, colon, toll = word.partition(":")
    return is_number_text(strength) and is_figures(toll)


def row_text(row):
    """The row's text: `STRENGTH:TOLL` of each, parted by one blank."""
    return " ".join([number_text(strength) + ":" + number_text(toll) for strength, toll in row])


def beast_in(word):
    strength, colon, toll = word.partition(":")
    return number_in(strength), number_in(toll)


def row_in(text):
    """The ROW whose text it is; BadText(at), the number of the first word that isn't so written."""
    words = text.split(" ")
    for at, word in enumerate(words):
        if not is_beast_text(word):
            raise BadText(at)
    return tuple([beast_in(word) for word in words])
