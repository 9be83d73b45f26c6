"""Posts by the names of their places."""


def numbers_of(web, names):
    """The ascending tuple of the numbers of the places with these names; UnknownName for the first that has none."""
    return tuple(sorted([web.index(name) for name in names]))


def names_of(web, post):
    """The names of the places of a post, in the order of their numbers."""
    return tuple([web.places[place] for place in post])
