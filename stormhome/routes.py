"""Routes: the least food with which told takings and legs can be done, whatever the weather does."""

from stormhome.going import may_take, most_extra
from stormhome.land import find_leg, rations_in
from stormhome.needs import NO_FOOD


class Stage:
    """One part of a route: the rations that are taken and the leg behind."""

    def __init__(self, rations, leg):
        self.rations = rations
        self.leg = leg


def stages_of(land, place, held, pairs):
    """Give the stages of a route, or None if a taking may not be done or there's no such leg."""
    stages = []
    for at in range(0, len(pairs), 2):
        taking = pairs[at]
        leg = find_leg(land, place, pairs[at + 1])
        if leg is None or not may_take(land, place, held, taking):
            return None
        stages.append(Stage(rations_in(land, taking), leg))
        held -= taking
        place = leg.to_place
    return stages


def need_ahead(limit, stage, needs, storms):
    """Give the need ahead of a stage, from the needs behind it by the storm days that may then still come."""
    cost = max([
        stage.leg.least + extra + needs[storms - extra] for extra in range(most_extra(stage.leg, storms) + 1)
    ])
    if cost > limit:
        return NO_FOOD
    return max(0, cost - stage.rations)


def route_need(land, place, held, storms, pairs):
    """Give the least food for the route, or NO_FOOD."""
    stages = stages_of(land, place, held, pairs)
    if stages is None:
        return NO_FOOD
    needs = [0] * (storms + 1)
    for stage in reversed(stages):
        needs = [need_ahead(land.limit, stage, needs, left) for left in range(storms + 1)]
    return needs[storms]
