"""The pieces of a web: places that ways of ties join."""


def pieces(web):
    beside = places_beside(web)
    seen = {}
    found = []
    for place in range(web.many):
        if place not in seen:
            piece = piece_of(beside, place)
            seen.update({one: True for one in piece})
            found.append(piece)
    return tuple(found)


def places_beside(web):
    """For each place those that it is tied to."""
    beside = [[] for place in range(web.many)]
    for i, j, weight in web.ties:
        beside[i].append(j)
        beside[j].append(i)
    return beside


def piece_of(beside, place):
    found = {place: True}
    waiting = [place]
    while waiting:
        here = waiting.pop()
        for there in beside[here]:
            if there not in found:
                found[there] = True
                waiting.append(there)
    return tuple(sorted(found))
