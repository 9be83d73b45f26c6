"""Parts of webs: place i of a part is the place places[i] of the web; these are its new and its old number."""

from tagwebs.errors import BadCarry
from tagwebs.webs import check_part


def new_numbers(part, places):
    """The set of those of the places that are in the part, by their new numbers."""
    return tuple([at for at, place in enumerate(part) if place in places])


def old_numbers(part, places):
    """The set of the old numbers of places of the part."""
    return tuple(sorted([part[at] for at in places]))


def check_carry(web, part, small):
    """Raise an error unless the list is a part of the web that has all passages of the small web.

    Both webs are doorless, so one beat tells of all.
    """
    check_part(web, part)
    if len(small) != len(part):
        raise BadCarry("web")
    for u in range(len(small)):
        for v in small.steps(u, 0):
            if part[v] not in web.steps(part[u], 0):
                raise BadCarry("web")
