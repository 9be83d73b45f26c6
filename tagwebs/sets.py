"""Sets of numbers, as ascending tuples."""


def is_set(places, count):
    """True if the tuple is an ascending one of different numbers from 0 to count - 1."""
    inside = [0 <= place < count for place in places]
    rising = [places[at] < places[at + 1] for at in range(len(places) - 1)]
    return all(inside) and all(rising)


def union(first, second):
    """The set of the places of the two."""
    return tuple(sorted(set([*first, *second])))


def others(places, count):
    """The set of the numbers from 0 to count - 1 that are not among the places."""
    return tuple([place for place in range(count) if place not in places])


def has_all(places, wanted):
    """True if all that is wanted is among the places."""
    return all([place in places for place in wanted])


def sets_up_to(count, most):
    """The ascending list of all sets of at most so many numbers from 0 to count - 1."""
    found = [()]
    for place in range(count):
        found = [*found, *[(*places, place) for places in found if len(places) < most]]
    return sorted(found)
