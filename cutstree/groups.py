"""Groups: all places of a web shared out among some told ones, so that these are apart."""

from cutstree.amounts import from_parts, is_below, parts
from cutstree.errors import NoGroups, NoPlace, TooMany
from cutstree.heaps import joined
from cutstree.kinds import are_rising_places, is_row_of
from cutstree.trees import refuse_no_tree_of

MOST_SHARED = 9


def is_apart(web, places, groups):
    refuse_no_told(web, places)
    if not is_row_of(groups, len(places)) or not all([are_rising_places(web.many, group) for group in groups]):
        return False
    if joined(groups) != tuple(range(web.many)):
        return False
    return all([place in group for place, group in zip(places, groups)])


def groups_weight(web, places, groups):
    if not is_apart(web, places, groups):
        raise NoGroups()
    group_of = {place: at for at, group in enumerate(groups) for place in group}
    return from_parts(weight_apart(web, group_of))


def apart_by_tree(web, tree, places):
    refuse_no_told(web, places)
    refuse_no_tree_of(web, tree)
    group_of = list(range(web.many))
    is_told = [place in places for place in group_of]
    for at in falling_indexes(tree):
        one, other = group_of[tree[at][0]], group_of[tree[at][1]]
        if not is_told[one] or not is_told[other]:
            group_of = [one if group == other else group for group in group_of]
            is_told[one] = is_told[one] or is_told[other]
    return groups_of(group_of, [group_of[place] for place in places])


def least_apart(web, places):
    refuse_no_told(web, places)
    if web.many > MOST_SHARED:
        raise TooMany(MOST_SHARED)
    group_of = min(all_shares(web.many, places), key=lambda share: weight_apart(web, share))
    return groups_of(group_of, list(range(len(places))))


def refuse_no_told(web, places):
    if not are_rising_places(web.many, places) or len(places) < 2:
        raise NoPlace()


def weight_apart(web, group_of):
    """What the ties between places of unlike groups weigh together, in 55,440ths."""
    return sum([parts(weight) for i, j, weight in web.ties if group_of[i] != group_of[j]])


def groups_of(group_of, names):
    """The groups of these names, in their order; group_of[place] is the name of a place's group."""
    return tuple([tuple([place for place, group in enumerate(group_of) if group == name]) for name in names])


def falling_indexes(tree):
    """The indexes of a tree's rows by falling amounts, equal ones rising."""
    order = []
    for at, row in enumerate(tree):
        ahead = [one for one in order if not is_below(tree[one][2], row[2])]
        order.insert(len(ahead), at)
    return order


def all_shares(many, places):
    """Each way to share the places out: for each place the index of its group."""
    shares = [()]
    for place in range(many):
        free = list(range(len(places)))
        indexes = [at for at in free if places[at] == place] or free
        shares = [share + (at,) for share in shares for at in indexes]
    return shares
