"""Sets of numbers, as ascending tuples."""


def is_set(places, count):
    """True if the tuple is an ascending one of different numbers from 0 to count - 1."""
    inside = [0 <= place < count for place in places]
    rising = [places[at] < places[at + 1] for at in range(len(places) - 1)]
    return all(inside) and all(rising)
