"""Orders of places that make the greatest bag as small as it can be."""

from tagwebs.sets import union


def least_order(count, weigh):
    """The least of the orders of so many places for which the greatest weight is least.

    weigh(before, place) is the weight of a place behind the set of the places before it.
    """
    best = {(): (0, ())}
    for _ in range(count):
        best = longer_orders(best, count, weigh)
    return best[tuple(range(count))][1]


def longer_orders(best, count, weigh):
    """For each set of one place more the greatest weight and the order, the least that begin as one of the best do."""
    longer = {}
    for before, (most, order) in best.items():
        for place in range(count):
            if place not in before:
                after = union(before, (place,))
                found = (max(most, weigh(before, place)), (*order, place))
                longer[after] = min(found, longer.get(after, found))
    return longer
