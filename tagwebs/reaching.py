"""Where one can go on a web, and what hangs together."""

from tagwebs.checking import check_places, check_plain


def reach(web, beat, starts, barred):
    """The set of the places to which one can go at this beat from the starts, never to a barred place."""
    check_places(web, starts)
    check_places(web, barred)
    return reached(web, beat, starts, barred)


def reached(web, beat, starts, barred):
    """Like reach, for numbers that are known to be those of places."""
    found = {}
    ahead = [place for place in starts if place not in barred]
    while ahead:
        place = ahead.pop()
        if place not in found:
            found[place] = True
            ahead.extend([other for other in web.steps(place, beat) if other not in barred])
    return tuple(sorted(found))


def around(web, places):
    """The set of the places and of all to which a passage of the first beat leads from one of them."""
    return tuple(sorted(set([other for place in places for other in web.steps(place, 0)])))


def rim(web, places):
    """The set of those of the places into which a passage leads from a place that is not one of them."""
    check_places(web, places)
    outside = [place for place in range(len(web)) if place not in places]
    return tuple([place for place in sorted(set(places)) if is_entered(web, place, outside)])


def is_entered(web, place, starts):
    """True if a passage leads at some beat from one of the starts to the place."""
    return any([web.leads(start, place, beat) for start in starts for beat in range(web.beats)])


def pieces(web, barred):
    """The pieces of a plain web without the barred places, by their first places."""
    check_plain(web)
    check_places(web, barred)
    found = []
    for place in range(len(web)):
        if place not in barred and not any([place in piece for piece in found]):
            found.append(reached(web, 0, [place], barred))
    return found


def touch(web, first, second):
    """True if the two lists of places of a plain web share a place, or a passage leads between them."""
    check_plain(web)
    check_places(web, first)
    check_places(web, second)
    near = around(web, first)
    return any([place in near for place in second])


def is_joined(web):
    """True if the plain web has one piece."""
    return len(pieces(web, ())) == 1
