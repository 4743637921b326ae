"""A square: a row that is kept over many deeds, each of which can be undone."""

from standby.calling import called
from standby.calls import call_of
from standby.errors import BadDeed, Known, Last, NoDeed, NoName, NoPlace
from standby.rows import must_have, place_of
from standby.tables import Table

# By the word of each deed how many things it may be handed.
THINGS = {"call": (1,), "come": (1, 2), "leave": (1,), "change": (2,)}


def must_be_deeds(deeds):
    """Refuse the first that is no tuple of a deed's word and as many things as it is handed."""
    for at, deed in enumerate(deeds):
        if not isinstance(deed, tuple) or len(deed) == 0:
            raise BadDeed(at)
        # The word may be anything: only of a list of words it can safely be asked whether it is there.
        if deed[0] not in list(THINGS) or len(deed) - 1 not in THINGS[deed[0]]:
            raise BadDeed(at)


class Square:
    """A row of people, and the deeds that stand."""

    def __init__(self, row):
        # The rows behind none, one, .. all deeds that stand, and beside each the call that led to it, None of others.
        self.rows = [tuple(row)]
        self.calls = [None]
        self.noted = []

    def __len__(self):
        return len(self.rows[-1])

    def __eq__(self, other):
        return isinstance(other, Square) and self.rows[-1] == other.rows[-1]

    def __str__(self):
        return " ".join(self.rows[-1])

    def call(self, told):
        """Tell people where to go, all others to stay, and tell the ROW behind it."""
        row = self.stands()
        pairs = list(told.items()) if isinstance(told, dict) else told
        for who, name in pairs:
            must_have(row, who)
            must_have(row, name)
        call = call_of(row, dict(pairs))
        self.keep(called(row, call), call)
        return self.stands()

    def come(self, name, place=None):
        """Let somebody more come to a place, the last one where none is told."""
        row = self.stands()
        if name in row:
            raise Known(name)
        if place is None:
            place = len(row)
        if not 0 <= place <= len(row):
            raise NoPlace(place)
        self.keep(row[:place] + (name,) + row[place:], None)

    def leave(self, name):
        """Let somebody leave, and tell their place."""
        row = self.stands()
        place = place_of(row, name)
        if len(row) == 1:
            raise Last()
        self.keep(row[:place] + row[place + 1:], None)
        return place

    def change(self, one, other):
        """Let two change places."""
        row = list(self.stands())
        place = place_of(row, one)
        beside = place_of(row, other)
        row[place], row[beside] = other, one
        self.keep(tuple(row), None)

    def undo(self):
        """Undo the last deed that stands, and tell whether there was one."""
        many = self.deeds()
        if many == 0:
            return False
        self.keep_first(many - 1)
        return True

    def do(self, deeds, *, whole=True):
        """Do deeds one by one, and tell what they tell; where one is refused and they go as a whole, do none."""
        must_be_deeds(deeds)
        before = self.deeds()
        told = []
        many = 0
        self.noted.append(("in", len(deeds)))
        try:
            for deed in deeds:
                told.append(self.do_one(deed))
                self.noted.append(deed[0])
                many += 1
        except (NoName, Known, NoPlace, Last):
            if whole:
                self.keep_first(before)
            raise
        finally:
            self.noted.append(("out", many))
        return told

    def do_one(self, deed):
        """Do one deed, and tell what it tells."""
        word, *things = deed
        if word == "call":
            return self.call(*things)
        if word == "come":
            return self.come(*things)
        if word == "leave":
            return self.leave(*things)
        return self.change(*things)

    def keep(self, row, call):
        """Keep one more deed, and the row behind it."""
        self.rows.append(row)
        self.calls.append(call)

    def keep_first(self, many):
        """Keep so many deeds alone."""
        self.rows = self.rows[:many + 1]
        self.calls = self.calls[:many + 1]

    def stands(self):
        """Tell the ROW."""
        return self.rows[-1]

    def word(self):
        """Tell the WORD of all calls since the last deed that was none."""
        calls = []
        for call in reversed(self.calls):
            if call is None:
                break
            calls.append(call)
        return calls[::-1]

    def table(self):
        """Tell the Table of the word."""
        return Table(self.stands(), self.word())

    def begun(self):
        """Tell the ROW ahead of the word."""
        return self.rows[-1 - len(self.word())]

    def deeds(self):
        """Tell how many deeds could be undone."""
        return len(self.rows) - 1

    def as_of(self, many):
        """Tell a Square as this one was behind so many deeds, without marks."""
        if not 0 <= many <= self.deeds():
            raise NoDeed(many)
        made = Square(self.rows[0])
        made.rows = list(self.rows)
        made.calls = list(self.calls)
        made.keep_first(many)
        return made

    def twin(self):
        """Tell a Square as this one is, without marks."""
        return self.as_of(self.deeds())

    def marks(self):
        """Tell what was noted of each do."""
        return list(self.noted)
