"""A desk: rows of text, answered by a square."""

from standby.between import call_of_fewest, calls_many
from standby.errors import Alike, BadRow, BadText, Known, Last, Never, NoName, NoPlace, Unlike
from standby.far import comes_round, far
from standby.few import fewest_calls
from standby.had import ends_many, had
from standby.rows import is_name, is_row, must_be_two, place_of
from standby.square import Square
from standby.texts import call_in, call_text, row_in, row_text, word_in
from standby.walkers import pair_of

FIGURES = "0123456789"
MOST_FIGURES = 13

# How rows are written: a word, and the kinds of what stands behind it. A TEXT or a ROW is all that is left.
FORMS = (
    ("call", "TEXT"),
    ("change", "NAME", "NAME"),
    ("come", "NAME"),
    ("come", "NAME", "NUMBER"),
    ("leave", "NAME"),
    ("undo",),
    ("row",),
    ("place", "NAME"),
    ("far", "NUMBER", "TEXT"),
    ("round", "TEXT"),
    ("pair", "NAME", "NAME", "TEXT"),
    ("had", "TEXT"),
    ("ends", "TEXT"),
    ("many", "ROW"),
    ("least", "ROW"),
    ("few", "FEW", "ROW"),
)


def is_number(part):
    """Tell whether a part of a row is a number in plain figures."""
    if not 1 <= len(part) <= MOST_FIGURES or not all([figure in FIGURES for figure in part]):
        return False
    return part == "0" or part[0] != "0"


def is_of_kind(part, kind):
    """Tell whether a part of a row is of this kind."""
    if kind == "NAME":
        return is_name(part)
    if kind == "NUMBER":
        return is_number(part)
    if kind == "FEW":
        return is_number(part) and int(part) >= 2
    if kind == "ROW":
        return is_row(tuple(part.split(" ")))
    return part != ""


def is_written(row, form):
    """Tell whether a row is written in this form."""
    parts = parts_of(row, form)
    if len(parts) != len(form) or parts[0] != form[0]:
        return False
    return all([is_of_kind(part, kind) for part, kind in zip(parts[1:], form[1:])])


def parts_of(row, form):
    """Tell the parts of a row of this form, of which the last is all that is left."""
    return row.split(" ", len(form) - 1)


def question_in(row, at):
    """Tell the parts of the row of this number, the word first."""
    for form in FORMS:
        if is_written(row, form):
            return parts_of(row, form)
    raise BadRow(at)


def first_row(text):
    """Tell the ROW of the desk's first row."""
    try:
        return row_in(text)
    except BadText:
        raise BadRow(0) from None


def answer_call(square, text):
    """Answer call."""
    return row_text(square.call(call_in(square.stands(), text)))


def answer_change(square, one, other):
    """Answer change."""
    square.change(one, other)
    return str(square)


def answer_come(square, name, place=None):
    """Answer come."""
    square.come(name, None if place is None else int(place))
    return str(square)


def answer_leave(square, name):
    """Answer leave."""
    return str(square.leave(name))


def answer_undo(square):
    """Answer undo."""
    return "done" if square.undo() else "nothing"


def answer_row(square):
    """Answer row."""
    return str(square)


def answer_place(square, name):
    """Answer place."""
    return str(place_of(square.stands(), name))


def answer_far(square, many, text):
    """Answer far."""
    row = square.stands()
    return row_text(far(row, word_in(row, text), int(many)))


def answer_round(square, text):
    """Answer round."""
    row = square.stands()
    begin, later = comes_round(row, word_in(row, text))
    return f"{begin} {later}"


def answer_pair(square, one, other, text):
    """Answer pair."""
    row = square.stands()
    # The people are looked at first, as they are refused ahead of the text.
    must_be_two(row, one, other)
    return " ".join(pair_of(word_in(row, text), one, other))


def answer_had(square, text):
    """Answer had."""
    row = square.stands()
    return row_text(had(row, word_in(row, text)))


def answer_ends(square, text):
    """Answer ends."""
    row = square.stands()
    return str(ends_many(row, word_in(row, text)))


def answer_many(square, text):
    """Answer many."""
    return str(calls_many(square.stands(), row_in(text)))


def answer_least(square, text):
    """Answer least."""
    return call_text(call_of_fewest(square.stands(), row_in(text)))


def answer_few(square, few, text):
    """Answer few."""
    return str(fewest_calls(square.stands(), row_in(text), int(few)))


ANSWERS = {
    "call": answer_call,
    "change": answer_change,
    "come": answer_come,
    "leave": answer_leave,
    "undo": answer_undo,
    "row": answer_row,
    "place": answer_place,
    "far": answer_far,
    "round": answer_round,
    "pair": answer_pair,
    "had": answer_had,
    "ends": answer_ends,
    "many": answer_many,
    "least": answer_least,
    "few": answer_few,
}


def answer(square, question):
    """Answer one row, told its parts, or tell by which refusal it is met."""
    word, *things = question
    action = ANSWERS[word]
    try:
        return action(square, *things)
    except Unlike:
        return "refused Unlike"
    except Alike:
        return "refused Alike"
    except BadText:
        return "refused BadText"
    except NoName:
        return "refused NoName"
    except NoPlace:
        return "refused NoPlace"
    except Never:
        return "refused Never"
    except Known:
        return "refused Known"
    except Last:
        return "refused Last"


def answers(text):
    """Answer all rows behind the first one, by a square of that one."""
    first, *others = text.split("\n")
    square = Square(first_row(first))
    # All rows are read first, as one that is not rightly written is refused ahead of all.
    questions = [question_in(row, at) for at, row in enumerate(others, start=1)]
    return [answer(square, question) for question in questions]
