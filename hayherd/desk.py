"""A desk: a text of rows done to a fold and asked of it, and what each of them is told."""

from hayherd.errors import BadRow, Full, MayNot, NoBeast, NoPlace
from hayherd.fold import Fold
from hayherd.never import ever
from hayherd.texts import is_beast_text, is_figures, is_number_text, number_in, row_in, row_text

MOST_FIGURES = 13

# What stands behind each word, in each of its forms: a letter for a word, n a number, f plain figures.
FORMS = {
    "come": ("nf", "nff"),
    "leave": ("f",),
    "overtake": ("f",),
    "fall": ("f",),
    "feed": ("fn",),
    "ask": ("ff",),
    "settle": ("",),
    "unsettle": ("",),
    "undo": ("",),
    "row": ("",),
    "names": ("",),
    "may": ("",),
    "last": ("",),
    "paid": ("f",),
    "never": ("ff",),
}


def is_short(word):
    return len(word.removeprefix("-")) <= MOST_FIGURES


def is_so_written(kind, word):
    if not is_short(word):
        return False
    return is_figures(word) if kind == "f" else is_number_text(word)


def has_form(form, words):
    return len(words) == len(form) and all([is_so_written(kind, word) for kind, word in zip(form, words)])


def is_begin(line):
    """Whether a row is `fold` and a ROW's text, or `fold` alone."""
    word, *beasts = line.split(" ")
    if word != "fold" or not all([is_beast_text(beast) for beast in beasts]):
        return False
    return all([is_short(number) for beast in beasts for number in beast.split(":")])


def is_ask(line):
    """Whether a row behind the first is so written."""
    word, *words = line.split(" ")
    return word in FORMS and any([has_form(form, words) for form in FORMS[word]])


def refuse_bad_rows(lines):
    if not is_begin(lines[0]):
        raise BadRow(0)
    for number in range(1, len(lines)):
        if not is_ask(lines[number]):
            raise BadRow(number)


def yes_or_no(so):
    return "yes" if so else "no"


def names_text(names):
    return " ".join([str(name) for name in names]) if names else "-"


def come(fold, strength, toll, place=None):
    return str(fold.come(strength, toll, place=place))


def leave(fold, name):
    fold.leave(name)
    return "done"


def overtake(fold, name):
    return str(fold.overtake(name))


def fall(fold, name):
    return str(fold.fall_back(name))


def feed(fold, name, by):
    fold.feed(name, by)
    return "done"


def ask(fold, name, toll):
    fold.ask(name, toll)
    return "done"


def settle(fold):
    return str(fold.settle())


def unsettle(fold):
    return str(fold.unsettle())


def undo(fold):
    return yes_or_no(fold.undo())


def row_now(fold):
    return row_text(fold.row()) if len(fold) > 0 else "-"


def names_now(fold):
    return names_text(fold.names())


def may_now(fold):
    return names_text(fold.may_pass())


def last_then(fold):
    return names_text(fold.last_names())


def paid(fold, name):
    return str(fold.paid(name))


def never_passes(fold, one, other):
    names = fold.names()
    for name in (one, other):
        if name not in names:
            raise NoBeast(name)
    ahead = names.index(one)
    behind = names.index(other)
    return yes_or_no(ahead < behind and not ever(fold.row(), ahead, behind))


ANSWERS = {
    "come": come,
    "leave": leave,
    "overtake": overtake,
    "fall": fall,
    "feed": feed,
    "ask": ask,
    "settle": settle,
    "unsettle": unsettle,
    "undo": undo,
    "row": row_now,
    "names": names_now,
    "may": may_now,
    "last": last_then,
    "paid": paid,
    "never": never_passes,
}


def answer(fold, line):
    word, *words = line.split(" ")
    numbers = [number_in(part) for part in words]
    action = ANSWERS[word]
    try:
        return action(fold, *numbers)
    except Full:
        return "refused Full"
    except NoPlace:
        return "refused NoPlace"
    except NoBeast:
        return "refused NoBeast"
    except MayNot:
        return "refused MayNot"


def begun(line):
    word, blank, text = line.partition(" ")
    return Fold(() if text == "" else row_in(text))


def answers(text):
    """The list of a text for each row but the first, which makes the fold; BadRow(number), ahead of all."""
    lines = text.split("\n")
    refuse_bad_rows(lines)
    fold = begun(lines[0])
    told = []
    for line in lines[1:]:
        told.append(answer(fold, line))
    return told
