"""Orders of places that make the greatest bag as small as it can be."""

from tagwebs.sets import union


def least_order(count, weigh):
    """The least of the orders of so many places for which the greatest weight is least.

    weigh(before, place) is the weight of a place behind the set of the places before it.
    """
    best = {(): (0, ())}
    for _ in range(count):
        longer = {}
        for before, (most, order) in best.items():
            for place in range(count):
                if place not in before:
                    after = union(before, (place,))
                    found = (max(most, weigh(before, place)), (*order, place))
                    longer[after] = min(found, longer.get(after, found))
        best = longer
    return best[tuple(range(count))][1]
