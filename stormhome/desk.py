"""The desk: answers the calls of a list one behind another."""

from stormhome.calls import call_at, is_in_ranges
from stormhome.following import check_plan, follow_plan
from stormhome.going import Party, harmful_extra, is_safe, may_take, most_extra, party_numbers, safe_choices
from stormhome.journeys import AT_HOME, AT_PLACE, NO_JOURNEY, Journey, arrive, choice_refusal, set_out, state_of
from stormhome.land import CACHE_BITS, HOME, MOST_STORMS, Land
from stormhome.land import caches_in, find_leg, land_form, take_land_line, whole_set
from stormhome.needs import NO_FOOD, Needs
from stormhome.plans import Plan, first_fitting, plan_form, rule_taking, take_plan_line
from stormhome.routes import route_need
from stormhome.texts import first_wrong_line

OUT_OF_RANGE = -1
NO_LAND = -2
NOT_IN_LAND = -3
NO_PLAN = -3
WRONG_LINES = -1000

LAND_CALL = 0


class Desk:
    """What the calls of one list work on: the land, its needs, the plan and the journey, None where there's none.

    A land that no plan was told for has an empty one.
    """

    def __init__(self):
        self.land = None
        self.needs = None
        self.plan = None
        self.plan_told = False
        self.journey = None


def party_told(call):
    told = call.told
    return Party(told["p"], told["s"], told["b"], told["f"])


def need_told(need):
    if need == NO_FOOD:
        return [0]
    return [1, need]


def answer_land(desk, call):
    land = Land()
    wrong = first_wrong_line(call.row, land, take_land_line)
    if wrong > 0:
        return [WRONG_LINES - wrong]
    if len(land.places) == 0:
        return [-4]
    desk.land = land
    desk.needs = Needs(land)
    desk.plan = Plan(land)
    desk.plan_told = False
    desk.journey = None
    return [0, len(land.places), len(land.legs), len(land.caches), land.limit, land.storms]


def answer_form(desk, call):
    form = land_form(desk.land)
    return [len(form)] + form


def answer_need(desk, call):
    told = call.told
    return need_told(desk.needs.need(told["p"], told["s"], told["b"]))


def answer_choices(desk, call):
    choices = safe_choices(desk.land, desk.needs, party_told(call))
    answer = [len(choices)]
    for choice in choices:
        answer.extend(choice)
    return answer


def answer_give(desk, call):
    party = party_told(call)
    spare = []
    for cache in caches_in(party.held):
        without = Party(party.place, party.held - CACHE_BITS[cache], party.storms, party.food)
        if is_safe(desk.needs, without):
            spare.append(cache)
    return [len(spare)] + spare


def answer_stand(desk, call):
    told = call.told
    for storms in range(MOST_STORMS, -1, -1):
        if is_safe(desk.needs, Party(told["p"], told["s"], storms, told["f"])):
            return [storms]
    return [-4]


def answer_resist(desk, call):
    party = party_told(call)
    taking = call.told["t"]
    leg = find_leg(desk.land, party.place, call.told["q"])
    if party.place == HOME or not may_take(desk.land, party.place, party.held, taking) or leg is None:
        return [-4]
    extra = harmful_extra(desk.land, desk.needs, party, taking, leg)
    if extra is None:
        return [-5]
    return [extra]


def answer_plan(desk, call):
    plan = Plan(desk.land)
    wrong = first_wrong_line(call.row, plan, take_plan_line)
    if wrong > 0:
        return [WRONG_LINES - wrong]
    desk.plan = plan
    desk.plan_told = True
    return [0, len(plan.rules)]


def answer_planform(desk, call):
    if not desk.plan_told:
        return [NO_PLAN]
    form = plan_form(desk.plan)
    return [len(form)] + form


def answer_rule(desk, call):
    index = first_fitting(desk.plan, party_told(call))
    if index is None:
        return [-4]
    rule = desk.plan.rules[index]
    return [index, rule_taking(rule), rule.end]


def answer_check(desk, call):
    return check_plan(desk.plan, party_told(call))


def answer_follow(desk, call):
    return follow_plan(desk.plan, party_told(call), call.row)


def answer_route(desk, call):
    told = call.told
    return need_told(route_need(desk.land, told["p"], told["s"], told["b"], call.row))


def answer_begin(desk, call):
    party = party_told(call)
    strict = call.told["x"]
    if strict == 1 and not is_safe(desk.needs, party):
        return [-4]
    desk.journey = Journey(party, strict)
    return [0]


def harm_ahead(desk, taking, leg):
    """Give the least extra days that make the journey's choice go wrong, or None if it's safe."""
    return harmful_extra(desk.land, desk.needs, desk.journey.party, taking, leg)


def answer_move(desk, call):
    taking = call.told["t"]
    journey = desk.journey
    refusal = choice_refusal(desk.land, journey, taking, call.told["q"])
    if refusal < 0:
        return [refusal]
    leg = find_leg(desk.land, journey.party.place, call.told["q"])
    if journey.strict == 1 and harm_ahead(desk, taking, leg) is not None:
        return [-7]
    set_out(desk.land, journey, taking, leg)
    return [0, journey.party.food, most_extra(leg, journey.party.storms)]


def answer_weather(desk, call):
    extra = call.told["k"]
    journey = desk.journey
    if journey is None:
        return [NO_JOURNEY]
    if journey.leg is None:
        return [-4]
    if extra > most_extra(journey.leg, journey.party.storms):
        return [-5]
    arrive(desk.land, journey, extra)
    lost = 1 if journey.lost else 0
    return [lost] + list(party_numbers(journey.party))


def answer_journey(desk, call):
    journey = desk.journey
    if journey is None:
        return [NO_JOURNEY]
    party = journey.party
    state = state_of(journey)
    answer = [state, journey.strict] + list(party_numbers(party))
    if state in (AT_PLACE, AT_HOME):
        answer.extend(need_told(desk.needs.need(party.place, party.held, party.storms)))
    return answer


def answer_log(desk, call):
    journey = desk.journey
    if journey is None:
        return [NO_JOURNEY]
    answer = [len(journey.log)]
    for entry in journey.log:
        answer.extend(entry)
    return answer


def answer_bear(desk, call):
    taking = call.told["t"]
    journey = desk.journey
    refusal = choice_refusal(desk.land, journey, taking, call.told["q"])
    if refusal < 0:
        return [refusal]
    extra = harm_ahead(desk, taking, find_leg(desk.land, journey.party.place, call.told["q"]))
    if extra is None:
        return [1]
    return [0, extra]


ANSWERERS = {
    0: answer_land, 1: answer_form, 2: answer_need, 3: answer_choices, 4: answer_give, 5: answer_stand,
    6: answer_resist, 7: answer_plan, 8: answer_planform, 9: answer_rule, 10: answer_check, 11: answer_follow,
    12: answer_route, 13: answer_begin, 14: answer_move, 15: answer_weather, 16: answer_journey, 17: answer_log,
    18: answer_bear,
}


def is_in_land(land, told):
    """Tell if the land has the place and the set, and allows the food if one is told."""
    if told["p"] >= len(land.places) or told["s"] > whole_set(land):
        return False
    return "f" not in told or told["f"] <= land.limit


def answer_to(desk, call):
    if not is_in_ranges(call):
        return [OUT_OF_RANGE]
    if call.number != LAND_CALL and desk.land is None:
        return [NO_LAND]
    if "p" in call.told and not is_in_land(desk.land, call.told):
        return [NOT_IN_LAND]
    answerer = ANSWERERS[call.number]
    return answerer(desk, call)


def answers(calls):
    """Answer the calls on one new object: for each, how many numbers are answered, then these."""
    desk = Desk()
    told = []
    at = 0
    while at < len(calls):
        call = call_at(calls, at)
        answer = answer_to(desk, call)
        told.append(len(answer))
        told.extend(answer)
        at = call.behind
    return told
