"""A fold: a row of beasts with names, kept over deeds that can be undone."""

from hayherd.ends import first, last, turned_about
from hayherd.errors import BadDeed, Full, MayNot, NoBeast, NoPlace
from hayherd.rows import can_fall, can_pass, is_number, led

MOST = 24

# What each word of a do is handed, a letter for each thing: n a number, t a toll, p a place or None.
HANDED = {
    "come": "ntp",
    "leave": "n",
    "overtake": "n",
    "fall_back": "n",
    "feed": "nn",
    "ask": "nt",
    "settle": "",
    "unsettle": "",
}


def is_handed(kind, thing):
    if kind == "p" and thing is None:
        return True
    return is_number(thing) and (kind != "t" or thing >= 0)


def is_fold_deed(thing):
    """Whether a thing is a tuple of a word and all that it's handed."""
    if not isinstance(thing, tuple) or len(thing) == 0:
        return False
    # Asked first, as a list can't be looked up.
    if not isinstance(thing[0], str) or thing[0] not in HANDED:
        return False
    kinds = HANDED[thing[0]]
    return len(thing) == 1 + len(kinds) and all([is_handed(kind, part) for kind, part in zip(kinds, thing[1:])])


def refuse_bad_deeds(deeds):
    for number, deed in enumerate(deeds):
        if not is_fold_deed(deed):
            raise BadDeed(number)


def moved(line, end):
    """The line in which its beasts stand as end says, a pair of a ROW and an ORDER of them."""
    row, order = end
    told = []
    for who, (strength, toll) in zip(order, row):
        name, before, same, paid = line[who]
        # By moving one loses just what it pays, and gains just what it has again.
        told.append((name, strength, toll, paid + before - strength))
    return tuple(told)


class Fold:
    """Beasts in a row, each with its name; what was done can be undone, deed by deed."""

    def __init__(self, row):
        # For each beast (name, strength, toll, paid). A tuple, so that what undo goes back to stays as it was.
        self.line = tuple([(name, strength, toll, 0) for name, (strength, toll) in enumerate(row)])
        # The name of the next one that comes.
        self.coming = len(row)
        # The pairs (line, coming) ahead of each deed that stands.
        self.past = []
        self.marks = []

    def __len__(self):
        return len(self.line)

    def __eq__(self, other):
        return isinstance(other, Fold) and self.line == other.line

    def turn(self, line, coming):
        """Have a deed stand, behind which these are the line and the next name."""
        self.past.append((self.line, self.coming))
        self.line = line
        self.coming = coming

    def put_at(self, place, parts):
        """Have a deed stand that puts these parts in place of the one at place."""
        self.turn(self.line[:place] + parts + self.line[place + 1:], self.coming)

    def move(self, end):
        """Have a deed stand behind which all stand as end says; told how many pairs it turns about."""
        self.turn(moved(self.line, end), self.coming)
        return len(turned_about(end[1]))

    def place_of(self, name):
        names = self.names()
        if name not in names:
            raise NoBeast(name)
        return names.index(name)

    def come(self, strength, toll, *, place=None):
        """One more, at that place, or at the back of all: told its name; Full(many), NoPlace(place)."""
        many = len(self.line)
        if many >= MOST:
            raise Full(MOST)
        at = many if place is None else place
        if at < 0 or at > many:
            raise NoPlace(place)
        name = self.coming
        self.turn(self.line[:at] + ((name, strength, toll, 0),) + self.line[at:], name + 1)
        return name

    def leave(self, name):
        """That one goes; NoBeast(name)."""
        self.put_at(self.place_of(name), ())

    def overtake(self, name):
        """That one passes the one right ahead: told that one's name; NoBeast(name), MayNot(name)."""
        place = self.place_of(name)
        if not can_pass(self.row(), place):
            raise MayNot(name)
        ahead = self.names()[place - 1]
        self.move(led(self.row(), [("pass", place)]))
        return ahead

    def fall_back(self, name):
        """That one falls back behind the one right behind: told that one's name; NoBeast(name), MayNot(name)."""
        place = self.place_of(name)
        if not can_fall(self.row(), place):
            raise MayNot(name)
        behind = self.names()[place + 1]
        self.move(led(self.row(), [("fall", place)]))
        return behind

    def feed(self, name, by):
        """That one is stronger by so much; NoBeast(name)."""
        place = self.place_of(name)
        same, strength, toll, paid = self.line[place]
        self.put_at(place, ((name, strength + by, toll, paid),))

    def ask(self, name, toll):
        """That one's toll is that from now on; NoBeast(name)."""
        place = self.place_of(name)
        same, strength, before, paid = self.line[place]
        self.put_at(place, ((name, strength, toll, paid),))

    def settle(self):
        """All pass till the last: told how many passings."""
        return self.move(last(self.row()))

    def unsettle(self):
        """All fall back till the first: told how many fallings."""
        return self.move(first(self.row()))

    def undo(self):
        """The last deed that stands is as if it had never been: True; False where there's none."""
        if len(self.past) == 0:
            return False
        self.line, self.coming = self.past.pop()
        return True

    def do_one(self, deed):
        word = deed[0]
        if word == "come":
            return self.come(deed[1], deed[2], place=deed[3])
        if word == "leave":
            return self.leave(deed[1])
        if word == "overtake":
            return self.overtake(deed[1])
        if word == "fall_back":
            return self.fall_back(deed[1])
        if word == "feed":
            return self.feed(deed[1], deed[2])
        if word == "ask":
            return self.ask(deed[1], deed[2])
        return self.settle() if word == "settle" else self.unsettle()

    def do(self, deeds, *, whole=True):
        """The list of what the deeds tell, done one by one; BadDeed(number), or what one of them is refused with.

        Where one is refused those ahead of it stand, but of a whole do none.
        """
        refuse_bad_deeds(deeds)
        stood = len(self.past)
        told = []
        self.marks.append(("in", len(deeds)))
        try:
            for deed in deeds:
                told.append(self.do_one(deed))
        except (Full, NoPlace, NoBeast, MayNot):
            while whole and len(self.past) > stood:
                self.undo()
            self.marks.append(("out", len(told)))
            raise
        self.marks.append(("out", len(told)))
        return told

    def row(self):
        """The ROW as it stands, () of none."""
        return tuple([(strength, toll) for name, strength, toll, paid in self.line])

    def names(self):
        """The list of names, the front first."""
        return [name for name, strength, toll, paid in self.line]

    def may_pass(self):
        """The rising list of the names of those who may pass."""
        row = self.row()
        return sorted([name for place, name in enumerate(self.names()) if can_pass(row, place)])

    def may_fall(self):
        """The rising list of the names of those who may fall back."""
        row = self.row()
        return sorted([name for place, name in enumerate(self.names()) if can_fall(row, place)])

    def last_names(self):
        """The list of names as they'd stand behind settle."""
        names = self.names()
        return [names[who] for who in last(self.row())[1]]

    def paid(self, name):
        """The tolls that it has paid, less those it had again, in all deeds that stand; NoBeast(name)."""
        return self.line[self.place_of(name)][3]

    def deeds(self):
        """How many deeds undo would take back."""
        return len(self.past)

    def log(self):
        """The list of ("in", many) and ("out", done) of each do."""
        return list(self.marks)

    def twin(self):
        """A fold of its own, the same, whose deeds can be undone there; its log is empty."""
        other = Fold(())
        other.line = self.line
        other.coming = self.coming
        other.past = list(self.past)
        return other
