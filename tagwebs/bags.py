"""Trees of bags on plain webs."""

from tagwebs.checking import check_order, check_place, check_plain, wrong_bag
from tagwebs.errors import BadBags, BadNumber
from tagwebs.reaching import around, reached
from tagwebs.sets import has_all, others, union
from tagwebs.trees import branch, height_of, linked


class Bags:
    """A tree of bags: the bags of a place hang together, and each passage is within a bag."""

    def __init__(self, web, bags, links):
        check_plain(web)
        wrong = wrong_bag(web, bags)
        if wrong is not None:
            raise BadBags(wrong[0], wrong[1])
        check_links(len(bags), links)
        check_bags_of_places(web, bags, links)
        check_bags_of_passages(web, bags)
        self.web = web
        self.bags = tuple(bags)
        self.links = tuple([tuple(link) for link in links])

    def __eq__(self, other):
        return (
            isinstance(other, Bags)
            and self.web == other.web
            and self.bags == other.bags
            and self.links == other.links
        )

    @property
    def size(self):
        """The greatest number of places in a bag."""
        return max([len(bag) for bag in self.bags])

    def toward(self, index, place):
        """The linked bag through which links lead from this bag to those of the place, None if this bag has it."""
        check_index(self.bags, index)
        check_place(self.web, place)
        if place in self.bags[index]:
            return None
        ways = []
        for other in linked(self.links, index):
            if any([place in self.bags[at] for at in branch(self.links, other, index)]):
                ways.append(other)
        return ways[0]

    def height(self, index, away):
        """The number of bags on the longest path from this bag on that does not go to the linked bag away."""
        check_index(self.bags, index)
        if away is not None and away not in linked(self.links, index):
            raise BadNumber(away)
        return height_of(self.links, index, away)

    def depth(self, index):
        """The number of links on the longest path from this bag on."""
        return self.height(index, None) - 1


def bags_of(web, order):
    """The Bags that come about if the places are taken out of the web in this order."""
    check_plain(web)
    check_order(web, order)
    met = [meets(web, tuple(order[:at]), order[at]) for at in range(len(order))]
    bags = [union((order[at],), met[at]) for at in range(len(order))]
    links = []
    for at in range(len(order) - 1):
        ends = [later for later in range(at + 1, len(order)) if order[later] in met[at]]
        links.append((at, ends[0] if ends else at + 1))
    return Bags(web, bags, links)


def meets(web, before, place):
    """The set of the places outside of a set to which one can go from the place through the set only."""
    passed = union(before, (place,))
    inside = reached(web, 0, (place,), others(passed, len(web)))
    return tuple([other for other in around(web, inside) if other not in passed])


def check_index(bags, index):
    """Raise BadNumber unless there is a bag with this index."""
    if not 0 <= index < len(bags):
        raise BadNumber(index)


def check_links(count, links):
    """Raise BadBags unless the links make a tree of so many bags."""
    for at, link in enumerate(links):
        if not is_link(link, count) or link[1] in branch(links[:at], link[0], None):
            raise BadBags("link", at)
    if len(branch(links, 0, None)) < count:
        raise BadBags("links", 0)


def is_link(link, count):
    """True if the tuple is a pair of different indexes of bags."""
    return len(link) == 2 and link[0] != link[1] and all([0 <= end < count for end in link])


def check_bags_of_places(web, bags, links):
    """Raise BadBags for the first place whose bags do not hang together."""
    for place in range(len(web)):
        own = [at for at, bag in enumerate(bags) if place in bag]
        inner = [link for link in links if has_all(own, link)]
        if not own or branch(inner, own[0], None) != own:
            raise BadBags("place", place)


def check_bags_of_passages(web, bags):
    """Raise BadBags for the first tie whose two places are in no bag together."""
    for at, tie in enumerate(web.ties()):
        ends = (web.index(tie[0]), web.index(tie[1]))
        if not any([has_all(bag, ends) for bag in bags]):
            raise BadBags("passage", at)
