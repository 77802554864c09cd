"""Going by a plan: following it through one weather, and checking it against all weathers."""

from stormhome.going import losing_extra, may_take, most_extra, party_behind, party_numbers
from stormhome.land import HOME, find_leg
from stormhome.plans import first_fitting, rule_taking

# The ways in which a plan fails at a party.
FAILS_NOT = 0
LOST = 1
NO_RULE = 2
NOT_DOABLE = 3
# How else following a plan ends.
CAME_HOME = 0
USED_UP = 4
TOO_MANY_DAYS = 5

MOST_PARTIES = 400
TOO_MANY_PARTIES = -6


class Step:
    """What a party does by a plan. If the plan fails at it ahead of the leg: in which way, and the leg is None."""

    def __init__(self, way, taking, leg):
        self.way = way
        self.taking = taking
        self.leg = leg


class Arrival:
    """A party that may come by a plan, with the extra days by which it was first come to."""

    def __init__(self, party, extras):
        self.party = party
        self.extras = extras


def step_by_plan(plan, party):
    """Give the step of a party that isn't at home."""
    index = first_fitting(plan, party)
    if index is None:
        return Step(NO_RULE, 0, None)
    rule = plan.rules[index]
    taking = rule_taking(rule)
    leg = find_leg(plan.land, party.place, rule.end)
    if leg is None or not may_take(plan.land, party.place, party.held, taking):
        return Step(NOT_DOABLE, 0, None)
    return Step(FAILS_NOT, taking, leg)


def failure_at(plan, arrival, step):
    """Give the way in which the plan fails at this party and the extra days up to there, or None."""
    if step.way != FAILS_NOT:
        return [0, step.way, len(arrival.extras)] + arrival.extras
    extra = losing_extra(plan.land, arrival.party, step.taking, step.leg)
    if extra is None:
        return None
    return [0, LOST, len(arrival.extras) + 1] + arrival.extras + [extra]


def arrivals_behind(plan, arrival, step):
    """Give the arrivals behind the step, by its extra days; the party must not be lost by any."""
    behind = []
    for extra in range(most_extra(step.leg, arrival.party.storms) + 1):
        party = party_behind(plan.land, arrival.party, step.taking, step.leg, extra)
        behind.append(Arrival(party, arrival.extras + [extra]))
    return behind


def check_plan(plan, party):
    """Answer check: 1 and how many parties may come; or 0, the way and the extra days; or the refusal."""
    row = [Arrival(party, [])]
    met = {party_numbers(party): True}
    at = 0
    while at < len(row):
        arrival = row[at]
        at += 1
        if arrival.party.place == HOME:
            continue
        step = step_by_plan(plan, arrival.party)
        # A failure is told ahead of a row that would grow too long behind the same party.
        failure = failure_at(plan, arrival, step)
        if failure is not None:
            return failure
        for later in arrivals_behind(plan, arrival, step):
            numbers = party_numbers(later.party)
            if numbers not in met:
                met[numbers] = True
                row.append(later)
        if len(row) > MOST_PARTIES:
            return [TOO_MANY_PARTIES]
    return [1, len(row)]


def end_on_leg(plan, party, step, extra):
    """Tell how following a plan ends at this party if the next leg takes these extra days; FAILS_NOT if it doesn't."""
    if step.way != FAILS_NOT:
        return step.way
    if extra > most_extra(step.leg, party.storms):
        return TOO_MANY_DAYS
    if party_behind(plan.land, party, step.taking, step.leg, extra) is None:
        return LOST
    return FAILS_NOT


def follow_plan(plan, party, extras):
    """Answer follow: how it ended, how many legs were gone, for each its end and the food there."""
    legs = 0
    ends = []
    for extra in extras:
        if party.place == HOME:
            break
        step = step_by_plan(plan, party)
        ended = end_on_leg(plan, party, step, extra)
        if ended != FAILS_NOT:
            return [ended, legs] + ends
        party = party_behind(plan.land, party, step.taking, step.leg, extra)
        legs += 1
        ends.extend([party.place, party.food])
    ended = CAME_HOME if party.place == HOME else USED_UP
    return [ended, legs] + ends
