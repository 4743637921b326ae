"""Texts of rows, calls and words, told and read."""

from standby.calls import call_of, goers, whom
from standby.errors import BadText
from standby.rows import is_name
from standby.words import must_be_of_one

NOBODY = "-"


def row_text(row):
    """Tell the names by blanks."""
    return " ".join(row)


def row_in(text):
    """Tell the ROW whose text it is."""
    row = []
    for at, name in enumerate(text.split(" ")):
        if not is_name(name) or name in row:
            raise BadText(at)
        row.append(name)
    return tuple(row)


def call_text(call):
    """Tell who goes to whom."""
    going = goers(call)
    if len(going) == 0:
        return NOBODY
    return " ".join([f"{who}>{whom(call, who)}" for who in going])


def call_in(names, text):
    """Tell the CALL of these people whose text it is."""
    told = {}
    if text == NOBODY:
        return call_of(names, told)
    ahead = ""
    for at, part in enumerate(text.split(" ")):
        who, sign, name = part.partition(">")
        # The bare text is less than all names, so that nobody is held against it at first.
        if who not in names or name not in names or who <= ahead or who == name:
            raise BadText(at)
        told[who] = name
        ahead = who
    return call_of(names, told)


def word_text(word):
    """Tell the texts of the calls, parted by commas and blanks."""
    must_be_of_one(word)
    return ", ".join([call_text(call) for call in word])


def word_in(names, text):
    """Tell the WORD of these people whose text it is."""
    word = []
    if text == "":
        return word
    for at, part in enumerate(text.split(", ")):
        try:
            word.append(call_in(names, part))
        except BadText:
            raise BadText(at) from None
    return word
