"""How much food is enough: the needs of a land."""

from stormhome.land import HOME, parts_of, rations_in, set_at

# Stands for the need where no food is enough: more than any limit, so what is reckoned from it is, too.
NO_FOOD = 1000


class Needs:
    """The needs of one land, reckoned when a set and a number of storm days are first asked for.

    levels has, for a set and a number of storm days, the need at each place.
    costs has, for the same, the food that each leg asks for when nothing more is taken ahead of it.
    """

    def __init__(self, land):
        self.land = land
        self.levels = {}
        self.costs = {}

    def need(self, place, held, storms):
        """Give the need, or NO_FOOD."""
        if (held, storms) not in self.levels:
            self.reckon(held, storms)
        return self.levels[(held, storms)][place]

    def reckon(self, held, storms):
        # A level is reckoned from those of its parts and of fewer storm days: these come first.
        for part in parts_of(held):
            for days in range(storms + 1):
                if (part, days) not in self.levels:
                    self.reckon_level(part, days)

    def reckon_level(self, held, storms):
        legs = self.land.legs
        needs = self.needs_with_takings(held, storms)
        delayed = [self.delayed_cost(leg, held, storms) for leg in legs]
        # Without taking and delay the level leans on itself. As each leg eats something,
        # lowering the needs from home outwards comes to an end, at the least ones.
        lowered = True
        while lowered:
            lowered = False
            for leg, least_cost in zip(legs, delayed):
                cost = max(least_cost, leg.least + needs[leg.to_place])
                if cost <= self.land.limit and cost < needs[leg.from_place]:
                    needs[leg.from_place] = cost
                    lowered = True
        self.levels[(held, storms)] = needs
        self.costs[(held, storms)] = [
            max(least_cost, leg.least + needs[leg.to_place]) for leg, least_cost in zip(legs, delayed)
        ]

    def needs_with_takings(self, held, storms):
        """Give the need at each place if the party must take something there at once."""
        needs = [NO_FOOD] * len(self.land.places)
        needs[HOME] = 0
        for index, leg in enumerate(self.land.legs):
            for taking in parts_of(held & set_at(self.land, leg.from_place)):
                if taking == 0:
                    continue
                cost = self.costs[(held - taking, storms)][index]
                if cost <= self.land.limit:
                    missing = max(0, cost - rations_in(self.land, taking))
                    needs[leg.from_place] = min(needs[leg.from_place], missing)
        return needs

    def delayed_cost(self, leg, held, storms):
        """Give the food that the leg asks for if it takes more than its least days, or 0 if it can't."""
        cost = 0
        for extra in range(1, min(leg.most - leg.least, storms) + 1):
            cost = max(cost, leg.least + extra + self.need(leg.to_place, held, storms - extra))
        return cost
