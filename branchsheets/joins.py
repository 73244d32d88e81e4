"""Things that are joined step by step: each one is told by a thing above it, or by itself."""


def root_of(above, x):
    """The thing that stands for all that are joined with x."""
    while above[x] != x:
        x = above[x]
    return x


def join_two(above, x, y):
    """Joins two things; True if they were not joined before."""
    low, high = root_of(above, x), root_of(above, y)
    if low == high:
        return False
    above[max(low, high)] = min(low, high)
    return True
