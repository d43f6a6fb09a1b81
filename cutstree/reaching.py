"""Places that are reached from others, step by step."""


def reached_from(beside, places):
    """These places and all that steps lead to from them, rising; beside[here] are those one step from here."""
    found = {place: True for place in places}
    waiting = list(places)
    while waiting:
        here = waiting.pop()
        for there in beside[here]:
            if there not in found:
                found[there] = True
                waiting.append(there)
    return tuple(sorted(found))


def not_reached_from(beside, places):
    reached = reached_from(beside, places)
    return tuple([place for place in range(len(beside)) if place not in reached])
