"""Plans: how their text is read, their one form, and which rule a party goes by."""

from stormhome.land import CACHE_BITS, MOST_LIMIT, MOST_STORMS, cache_called, place_called
from stormhome.texts import bytes_of_lines, number_within

MOST_RULES = 30


class Condition:
    """One condition: about "food" or "storms" with a sign and a number; about "have" or "lack" with a cache."""

    def __init__(self, about, sign, number):
        self.about = about
        self.sign = sign
        self.number = number


class Rule:
    """A rule; its caches are in the text's order, one told twice stands twice."""

    def __init__(self, place, conditions, caches, end):
        self.place = place
        self.conditions = conditions
        self.caches = caches
        self.end = end


class Plan:
    """A plan for a land; until its text is read through, what has been read of it."""

    def __init__(self, land):
        self.land = land
        self.rules = []


def read_measure(words, at):
    """Read a condition of three words, about food or storm days; None if it's wrong."""
    if at + 2 >= len(words) or words[at + 1] not in (">=", "<"):
        return None
    most = MOST_LIMIT if words[at] == "food" else MOST_STORMS
    number = number_within(words[at + 2], 0, most)
    if number is None:
        return None
    return Condition(words[at], words[at + 1], number)


def read_holding(land, words, at):
    """Read a condition of two words, about a cache; None if it's wrong."""
    if at + 1 >= len(words):
        return None
    cache = cache_called(land, words[at + 1])
    if cache is None:
        return None
    return Condition(words[at], "", cache)


def read_conditions(land, words):
    """Give the list of the conditions, or None if one is wrong."""
    conditions = []
    at = 0
    while at < len(words):
        condition = None
        length = 0
        if words[at] in ("food", "storms"):
            condition = read_measure(words, at)
            length = 3
        elif words[at] in ("have", "lack"):
            condition = read_holding(land, words, at)
            length = 2
        if condition is None:
            return None
        conditions.append(condition)
        at += length
    return conditions


def read_taking(land, words):
    """Give the list of the caches behind take, the empty one if there are no words, or None if they're wrong."""
    if len(words) == 0:
        return []
    if len(words) == 1 or words[0] != "take":
        return None
    caches = [cache_called(land, word) for word in words[1:]]
    if None in caches:
        return None
    return caches


def read_rule(land, words):
    """Give the rule, or None if the words are none."""
    if ":" not in words:
        return None
    colon = words.index(":")
    front = words[:colon]
    back = words[colon + 1:]
    if len(front) < 2 or front[0] != "at" or len(back) < 2 or back[-2] != "go":
        return None
    place = place_called(land, front[1])
    conditions = read_conditions(land, front[2:])
    caches = read_taking(land, back[:-2])
    end = place_called(land, back[-1])
    if place is None or conditions is None or caches is None or end is None:
        return None
    return Rule(place, conditions, caches, end)


def take_plan_line(plan, words):
    """Add the line's rule to the plan; answer False if the line is wrong."""
    rule = read_rule(plan.land, words)
    if rule is None or len(plan.rules) == MOST_RULES:
        return False
    plan.rules.append(rule)
    return True


def condition_words(land, condition):
    if condition.sign == "":
        return [condition.about, land.caches[condition.number].name]
    return [condition.about, condition.sign, str(condition.number)]


def rule_words(land, rule):
    words = ["at", land.places[rule.place]]
    for condition in rule.conditions:
        words.extend(condition_words(land, condition))
    words.append(":")
    if len(rule.caches) > 0:
        words.append("take")
        words.extend([land.caches[cache].name for cache in rule.caches])
    words.extend(["go", land.places[rule.end]])
    return words


def plan_form(plan):
    """Give the bytes of the plan's one form."""
    return bytes_of_lines([rule_words(plan.land, rule) for rule in plan.rules])


def rule_taking(rule):
    """Give the set that the rule takes."""
    return sum([bit for cache, bit in enumerate(CACHE_BITS) if cache in rule.caches])


def holds(condition, party):
    if condition.about == "have":
        return party.held & CACHE_BITS[condition.number] != 0
    if condition.about == "lack":
        return party.held & CACHE_BITS[condition.number] == 0
    amount = party.food if condition.about == "food" else party.storms
    if condition.sign == "<":
        return amount < condition.number
    return amount >= condition.number


def fits(rule, party):
    if rule.place != party.place:
        return False
    for condition in rule.conditions:
        if not holds(condition, party):
            return False
    return True


def first_fitting(plan, party):
    """Give the number of the first rule that fits the party, or None."""
    for index, rule in enumerate(plan.rules):
        if fits(rule, party):
            return index
    return None
