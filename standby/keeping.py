"""Rows that keep wants: pairs of which the earlier one is to stand ahead of the later one."""


def earlier_ones(names, wants):
    """Tell by each name the earlier ones of all wants whose later one they are."""
    earlier = {name: [] for name in names}
    for want in wants:
        earlier[want[1]].append(want[0])
    return earlier


def row_keeping(names, wants):
    """Tell those who can stand so that the wants are kept, the least name first, and those who are left."""
    earlier = earlier_ones(names, wants)
    row = []
    left = sorted(names)
    while True:
        free = [name for name in left if not any([one in left for one in earlier[name]])]
        if len(free) == 0:
            return row, left
        row.append(free[0])
        left.remove(free[0])


def ring_among(left, wants):
    """Tell a ring of wants among those left, each of whom is the later one of a want whose earlier one is left."""
    # Where an earlier one is left, so is the later one, who could not stand ahead of them.
    earlier = earlier_ones(left, [want for want in wants if want[0] in left])
    path = []
    name = left[0]
    while name not in path:
        path.append(name)
        name = earlier[name][0]
    # The path goes from later ones to earlier ones, a ring the other way about.
    return path[path.index(name):][::-1]
