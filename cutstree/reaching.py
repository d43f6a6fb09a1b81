"""Places that are reached from others, step by step."""


def reached_from(beside, places):
    """These places and all that steps lead to from them, rising; beside[here] are those one step from here."""
    found = {place: True for place in places}
    waiting = list(places)
    while waiting:
        here = waiting.pop()
        for there in beside[here]:
            if there not in found:
                found[there] = True
                waiting.append(there)
    return tuple(sorted(found))


def not_reached_from(beside, places):
    reached = reached_from(beside, places)
    return tuple([place for place in range(len(beside)) if place not in reached])


def joined_by(many, pairs):
    """The rows of places, each rising, by their least places, that ways of pairs join."""
    beside = places_beside(many, pairs)
    seen = {}
    found = []
    for place in range(many):
        if place not in seen:
            row = reached_from(beside, (place,))
            seen.update({one: True for one in row})
            found.append(row)
    return tuple(found)


def places_beside(many, pairs):
    """For each place those that a pair joins it to."""
    beside = [[] for place in range(many)]
    for one, other in pairs:
        beside[one].append(other)
        beside[other].append(one)
    return beside
