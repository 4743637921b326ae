"""What a call does to a row."""

from standby.calls import people
from standby.rows import must_be_same


def called(row, call):
    """Tell the ROW behind the call."""
    must_be_same(row, people(call))
    told = dict(call)
    places = {name: place for place, name in enumerate(row)}
    # Sorting leaves those who come to one place in the order in which they stood.
    return tuple(sorted(row, key=lambda name: places[told[name]]))
