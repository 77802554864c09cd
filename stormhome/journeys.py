"""Journeys: a party that is led choice by choice through its weather."""

from stormhome.going import Party, food_with, may_take, party_behind
from stormhome.land import HOME, find_leg

NO_JOURNEY = -3
NO_CHOICE_NOW = -4
NO_SUCH_TAKING = -5
NO_SUCH_LEG = -6

AT_PLACE = 0
ON_LEG = 1
AT_HOME = 2
LOST = 3


class Journey:
    """A journey. On a leg, its party is the one behind the taking, still at the place that was left.

    leg is the one that the party is on, or None; taking is what was taken ahead of it.
    log has for each leg that was gone: from, taking, to, extra days.
    """

    def __init__(self, party, strict):
        self.party = party
        self.strict = strict
        self.leg = None
        self.taking = 0
        self.lost = False
        self.log = []


def state_of(journey):
    if journey.lost:
        return LOST
    if journey.leg is not None:
        return ON_LEG
    if journey.party.place == HOME:
        return AT_HOME
    return AT_PLACE


def choice_refusal(land, journey, taking, end):
    """Give the refusal of a choice that move and bear share, or 0."""
    if journey is None:
        return NO_JOURNEY
    if state_of(journey) != AT_PLACE:
        return NO_CHOICE_NOW
    party = journey.party
    if not may_take(land, party.place, party.held, taking):
        return NO_SUCH_TAKING
    if find_leg(land, party.place, end) is None:
        return NO_SUCH_LEG
    return 0


def set_out(land, journey, taking, leg):
    """Take the caches and put the party on the leg."""
    party = journey.party
    journey.party = Party(party.place, party.held - taking, party.storms, food_with(land, party, taking))
    journey.taking = taking
    journey.leg = leg


def arrive(land, journey, extra):
    """Bring the party to the end of the leg that it's on, lost or not, with these extra days."""
    party = journey.party
    leg = journey.leg
    behind = party_behind(land, party, 0, leg, extra)
    if behind is None:
        journey.lost = True
        behind = Party(leg.to_place, party.held, party.storms - extra, 0)
    journey.party = behind
    journey.log.append((leg.from_place, journey.taking, leg.to_place, extra))
    journey.leg = None
