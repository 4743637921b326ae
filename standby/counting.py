"""Counting: orders, choices and powers."""


def orders_many(many):
    """Tell how many orders so many people have."""
    total = 1
    for each in range(2, many + 1):
        total *= each
    return total


def choices_many(many, few):
    """Tell how many choices of few there are among so many."""
    total = 1
    # Behind each step total is itself a number of choices, so that nothing is left over.
    for at in range(few):
        total = total * (many - at) // (at + 1)
    return total


def power(base, times):
    """Tell the product of so many times the base."""
    total = 1
    for each in range(times):
        total *= base
    return total
