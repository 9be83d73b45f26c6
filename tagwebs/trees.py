"""Trees of bags: which bags the links join. Links are pairs of indexes of bags."""


def linked(links, index):
    """The ascending list of the bags that a link joins with this one."""
    ends = [(first, second) for first, second in links if index in (first, second)]
    return sorted([second if first == index else first for first, second in ends])


def branch(links, index, away):
    """The ascending list of the bags to which links lead from this one, itself included, never through the bag away."""
    found = {}
    ahead = [index]
    while ahead:
        at = ahead.pop()
        if at not in found:
            found[at] = True
            ahead.extend([other for other in linked(links, at) if other != away])
    return sorted(list(found))


def height_of(links, index, away):
    """The number of the bags on the longest path in a tree from this bag on that does not go to the bag away."""
    heights = [height_of(links, other, index) for other in linked(links, index) if other != away]
    return 1 + max([0, *heights])
