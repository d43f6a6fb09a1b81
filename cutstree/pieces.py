"""The pieces of a web: places that ways of ties join."""

from cutstree.reaching import reached_from


def pieces(web):
    beside = places_beside(web)
    seen = {}
    found = []
    for place in range(web.many):
        if place not in seen:
            piece = reached_from(beside, (place,))
            seen.update({one: True for one in piece})
            found.append(piece)
    return tuple(found)


def places_beside(web):
    """For each place those that it is tied to."""
    beside = [[] for place in range(web.many)]
    for i, j, weight in web.ties:
        beside[i].append(j)
        beside[j].append(i)
    return beside
