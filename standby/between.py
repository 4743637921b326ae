"""From row to row: the calls and words that lead from one to another."""

from standby.calling import called
from standby.calls import goers
from standby.counting import choices_many, power
from standby.errors import NoNumber
from standby.rows import fallers, falls

# A call leads from one to other just where the places in one of whom people are told never fall along other, and
# rise behind each of its fallers. So each person has a least place to go to, and what a call adds to it, a shift,
# never falls along other; it is at most as many as the places that are left.


def least_places(one, other):
    """Tell, for each of other's people, the least place in one to which a call that leads there takes them."""
    falling = fallers(one, other)
    least = []
    place = 0
    for name in other:
        least.append(place)
        if name in falling:
            place += 1
    return least


def spare_places(one, other):
    """Tell the greatest shift that a call from one to other can have."""
    return len(one) - 1 - falls(one, other)


def rising_many(most, many):
    """Tell how many lists of so many numbers from 0 to most there are that never fall."""
    return choices_many(most + many, many)


def calls_many(one, other):
    """Tell how many CALLs lead from one to other."""
    return words_many(one, other, 1)


def words_many(one, other, many):
    """Tell how many WORDs of so many CALLs lead from one to other."""
    # Behind many calls people stand by the places to which they went, the last one first: one number for each, of
    # as many figures as there were calls, that never falls along other and rises behind each of its fallers.
    most = power(len(one), many) - 1 - falls(one, other)
    return rising_many(most, len(one))


def call_at(one, other, number):
    """Tell the CALL of this number of all that lead from one to other."""
    # Counted first, as unlike people are refused ahead of all.
    many = calls_many(one, other)
    if not 0 <= number < many:
        raise NoNumber(number)
    spare = spare_places(one, other)
    shifts = []
    shift = 0
    for left in range(len(one) - 1, -1, -1):
        # All calls with a lesser shift here come ahead.
        while number >= rising_many(spare - shift, left):
            number -= rising_many(spare - shift, left)
            shift += 1
        shifts.append(shift)
    return call_of_shifts(one, other, shifts)


def number_of(one, call):
    """Tell the number of the call among all that lead from one to where it leads."""
    other = called(one, call)
    spare = spare_places(one, other)
    told = dict(call)
    number = 0
    shift = 0
    for at, least in enumerate(least_places(one, other)):
        own = one.index(told[other[at]]) - least
        left = len(one) - 1 - at
        number += sum([rising_many(spare - lesser, left) for lesser in range(shift, own)])
        shift = own
    return number


def call_of_shifts(one, other, shifts):
    """Tell the CALL from one to other of these shifts along other."""
    least = least_places(one, other)
    return tuple(sorted([(name, one[least[at] + shifts[at]]) for at, name in enumerate(other)]))


def fewest_goers(one, other):
    """Tell how many at least are not told their own by a CALL that leads from one to other."""
    return len(goers(call_of_fewest(one, other)))


def call_of_fewest(one, other):
    """Tell the CALL from one to other by which the fewest go, of all such the one of the least number."""
    least = least_places(one, other)
    own = [one.index(name) - least[at] for at, name in enumerate(other)]
    most = most_staying(own, spare_places(one, other))
    shifts = []
    shift = 0
    for at, mine in enumerate(own):
        # The least shift does, but where as many can stay only if this one does.
        if most[at + 1][shift] < most[at][shift]:
            shift = mine
        shifts.append(shift)
    return call_of_shifts(one, other, shifts)


def most_staying(own, spare):
    """Tell, by each place along other and each shift, how many at most of those from there on can stay where no shift
    is less, own the shifts by which they do."""
    most = [[0] * (spare + 1)]
    for mine in reversed(own):
        behind = most[0]
        here = list(behind)
        for shift in range(spare + 1):
            if shift <= mine <= spare:
                here[shift] = max(behind[shift], behind[mine] + 1)
        most = [here] + most
    return most
