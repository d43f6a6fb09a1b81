"""Flows from some places of a web to others."""

from cutstree.amounts import from_parts, is_in_parts, parts
from cutstree.errors import NoFlow, NoPlace
from cutstree.kinds import are_rising_places, are_unlike_places, is_rising, is_row, is_row_of


def are_ends(web, froms, tos):
    if not are_rising_places(web.many, froms) or not are_rising_places(web.many, tos):
        return False
    return len(froms) > 0 and len(tos) > 0 and not any([place in tos for place in froms])


def refuse_no_ends(web, froms, tos):
    if not are_ends(web, froms, tos):
        raise NoPlace()


def is_flow(web, froms, tos, flow):
    refuse_no_ends(web, froms, tos)
    return worth_in_parts(web, froms, tos, flow) is not None


def flow_worth(web, froms, tos, flow):
    refuse_no_ends(web, froms, tos)
    worth = worth_in_parts(web, froms, tos, flow)
    if worth is None:
        raise NoFlow()
    return from_parts(worth)


def worth_in_parts(web, froms, tos, flow):
    """How many 55,440ths a flow between these ends is worth, None if it is no flow."""
    worth = loose_worth(web, froms, tos, flow)
    return worth if worth is not None and is_within_ties(web, flow) else None


def is_within_ties(web, flow):
    return all([parts(amount) <= parts(web.tie(i, j)) for i, j, amount in flow])


def loose_worth(web, froms, tos, flow):
    """The worth of what is a flow but that it may be above the ties' weights; None of anything else."""
    if not are_flow_rows(web, flow):
        return None
    going = going_out(web, flow)
    if any([going[place] != 0 for place in range(web.many) if place not in froms and place not in tos]):
        return None
    worth = sum([going[place] for place in froms])
    return worth if worth >= 0 else None


def are_flow_rows(web, flow):
    """Whether all but the balance and the bounds by ties is as a flow has it."""
    if not is_row(flow) or not all([is_flow_row(web.many, row) for row in flow]):
        return False
    steps = [(row[0], row[1]) for row in flow]
    if not is_rising(steps):
        return False
    ahead = {step: True for step in steps}
    return not any([(j, i) in ahead for i, j in steps])


def is_flow_row(many, thing):
    if not is_row_of(thing, 3) or not are_unlike_places(many, thing[0], thing[1]):
        return False
    return is_in_parts(thing[2]) and thing[2][0] > 0


def going_out(web, flow):
    """For each place what goes out of it less what comes in, in 55,440ths."""
    going = [0] * web.many
    for i, j, amount in flow:
        going[i] += parts(amount)
        going[j] -= parts(amount)
    return going
