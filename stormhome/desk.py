"""The desk: takes a list of calls apart and answers them one behind another."""

from stormhome.going import Party, harmful_extra, is_safe, may_take, safe_choices
from stormhome.land import CACHE_BITS, HOME, MOST_STORMS, Land
from stormhome.land import caches_in, find_leg, land_form, take_land_line, whole_set
from stormhome.needs import NO_FOOD, Needs
from stormhome.plans import Plan, first_fitting, plan_form, rule_taking, take_plan_line
from stormhome.texts import first_wrong_line

OUT_OF_RANGE = -1
NO_LAND = -2
NOT_IN_LAND = -3
NO_PLAN = -3
WRONG_LINES = -1000

LAND_CALL = 0
# The whole numbers of each call, by the letters that the document gives them.
FORMS = {
    0: "", 1: "", 2: "psb", 3: "psbf", 4: "psbf", 5: "psf", 6: "psbftq", 7: "", 8: "", 9: "psbf",
}
# The greatest value of each of these letters; the least is always 0.
TOPS = {"p": 6, "s": 15, "b": 8, "f": 60, "t": 15, "q": 6}
# The calls that have a row behind their whole numbers: its greatest length and its numbers' greatest value.
ROWS = {0: (2000, 255), 7: (2000, 255)}


class Call:
    """One call: its number, its whole numbers by their letters, its row, and where the next call begins."""

    def __init__(self, number, told, row, behind):
        self.number = number
        self.told = told
        self.row = row
        self.behind = behind


class Desk:
    """What the calls of one list work on. The plan is None if none was told for this land."""

    def __init__(self):
        self.land = None
        self.needs = None
        self.plan = None


def party_told(call):
    told = call.told
    return Party(told["p"], told["s"], told["b"], told["f"])


def answer_land(desk, call):
    land = Land()
    wrong = first_wrong_line(call.row, land, take_land_line)
    if wrong > 0:
        return [WRONG_LINES - wrong]
    if len(land.places) == 0:
        return [-4]
    desk.land = land
    desk.needs = Needs(land)
    desk.plan = None
    return [0, len(land.places), len(land.legs), len(land.caches), land.limit, land.storms]


def answer_form(desk, call):
    form = land_form(desk.land)
    return [len(form)] + form


def answer_need(desk, call):
    told = call.told
    need = desk.needs.need(told["p"], told["s"], told["b"])
    if need == NO_FOOD:
        return [0]
    return [1, need]


def answer_choices(desk, call):
    choices = safe_choices(desk.land, desk.needs, party_told(call))
    answer = [len(choices)]
    for choice in choices:
        answer.extend(choice)
    return answer


def answer_give(desk, call):
    party = party_told(call)
    spare = []
    for cache in caches_in(party.held):
        without = Party(party.place, party.held - CACHE_BITS[cache], party.storms, party.food)
        if is_safe(desk.needs, without):
            spare.append(cache)
    return [len(spare)] + spare


def answer_stand(desk, call):
    told = call.told
    for storms in range(MOST_STORMS, -1, -1):
        if is_safe(desk.needs, Party(told["p"], told["s"], storms, told["f"])):
            return [storms]
    return [-4]


def answer_resist(desk, call):
    party = party_told(call)
    taking = call.told["t"]
    leg = find_leg(desk.land, party.place, call.told["q"])
    if party.place == HOME or not may_take(desk.land, party, taking) or leg is None:
        return [-4]
    extra = harmful_extra(desk.land, desk.needs, party, taking, leg)
    if extra is None:
        return [-5]
    return [extra]


def answer_plan(desk, call):
    plan = Plan(desk.land)
    wrong = first_wrong_line(call.row, plan, take_plan_line)
    if wrong > 0:
        return [WRONG_LINES - wrong]
    desk.plan = plan
    return [0, len(plan.rules)]


def answer_planform(desk, call):
    if desk.plan is None:
        return [NO_PLAN]
    form = plan_form(desk.plan)
    return [len(form)] + form


def answer_rule(desk, call):
    # A plan that wasn't told is empty: no rule of it fits.
    if desk.plan is None:
        return [-4]
    index = first_fitting(desk.plan, party_told(call))
    if index is None:
        return [-4]
    rule = desk.plan.rules[index]
    return [index, rule_taking(rule), rule.end]


ANSWERERS = {
    0: answer_land, 1: answer_form, 2: answer_need, 3: answer_choices, 4: answer_give, 5: answer_stand,
    6: answer_resist, 7: answer_plan, 8: answer_planform, 9: answer_rule,
}


def call_at(calls, at):
    """Take the call that begins at this place out of the list."""
    number = calls[at]
    at += 1
    told = {}
    for letter in FORMS[number]:
        told[letter] = calls[at]
        at += 1
    row = []
    if number in ROWS:
        row = calls[at + 1:at + 1 + calls[at]]
        at += 1 + len(row)
    return Call(number, told, row, at)


def is_in_ranges(call):
    for letter in call.told:
        if call.told[letter] < 0 or call.told[letter] > TOPS[letter]:
            return False
    if call.number not in ROWS:
        return True
    most_numbers = ROWS[call.number][0]
    top = ROWS[call.number][1]
    return len(call.row) <= most_numbers and all([0 <= number <= top for number in call.row])


def is_in_land(land, told):
    """Tell if the land has the place and the set, and allows the food if one is told."""
    if told["p"] >= len(land.places) or told["s"] > whole_set(land):
        return False
    return "f" not in told or told["f"] <= land.limit


def answer_to(desk, call):
    if not is_in_ranges(call):
        return [OUT_OF_RANGE]
    if call.number != LAND_CALL and desk.land is None:
        return [NO_LAND]
    if "p" in call.told and not is_in_land(desk.land, call.told):
        return [NOT_IN_LAND]
    answerer = ANSWERERS[call.number]
    return answerer(desk, call)


def answers(calls):
    """Answer the calls on one new object: for each, how many numbers are answered, then these."""
    desk = Desk()
    told = []
    at = 0
    while at < len(calls):
        call = call_at(calls, at)
        answer = answer_to(desk, call)
        told.append(len(answer))
        told.extend(answer)
        at = call.behind
    return told
