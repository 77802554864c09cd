"""A party, its takings and legs, and which of its choices are safe."""

from stormhome.land import HOME, find_leg, parts_of, rations_in, set_at


class Party:
    """A party: its place, its set, the storm days that may still come, its food."""

    def __init__(self, place, held, storms, food):
        self.place = place
        self.held = held
        self.storms = storms
        self.food = food


def party_numbers(party):
    """Give the four numbers that tell a party."""
    return (party.place, party.held, party.storms, party.food)


def may_take(land, place, held, taking):
    """Tell if a party at this place with this set may take these caches."""
    return taking & held & set_at(land, place) == taking


def food_with(land, party, taking):
    """Give the party's food behind the taking."""
    return min(land.limit, party.food + rations_in(land, taking))


def most_extra(leg, storms):
    """Give the greatest number of extra days that the weather may choose."""
    return min(leg.most - leg.least, storms)


def party_behind(land, party, taking, leg, extra):
    """Give the party behind the taking and the leg, or None if it's lost."""
    food = food_with(land, party, taking) - leg.least - extra
    if food < 0:
        return None
    return Party(leg.to_place, party.held - taking, party.storms - extra, food)


def losing_extra(land, party, taking, leg):
    """Give the least extra days by which the party is lost on the leg, or None if the weather can't choose such."""
    for extra in range(most_extra(leg, party.storms) + 1):
        if party_behind(land, party, taking, leg, extra) is None:
            return extra
    return None


def is_safe(needs, party):
    return party.food >= needs.need(party.place, party.held, party.storms)


def harmful_extra(land, needs, party, taking, leg):
    """Give the least extra days behind which the party is lost or not safe, or None if the choice is safe."""
    for extra in range(most_extra(leg, party.storms) + 1):
        behind = party_behind(land, party, taking, leg, extra)
        if behind is None or not is_safe(needs, behind):
            return extra
    return None


def safe_choices(land, needs, party):
    """Give the safe choices as pairs of a taking and an end, by the taking, then by the end."""
    choices = []
    if party.place == HOME:
        return choices
    for taking in parts_of(party.held & set_at(land, party.place)):
        for end in range(len(land.places)):
            leg = find_leg(land, party.place, end)
            if leg is not None and harmful_extra(land, needs, party, taking, leg) is None:
                choices.append((taking, end))
    return choices
