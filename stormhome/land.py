"""A land: its places, legs and caches, how its text is read, and its one form."""

from stormhome.texts import bytes_of_lines, is_name, number_within

MOST_PLACES = 7
MOST_LEGS = 24
MOST_CACHES = 4
MOST_LEG_DAYS = 12
MOST_RATIONS = 60
MOST_LIMIT = 60
MOST_STORMS = 8
USUAL_LIMIT = 30
USUAL_STORMS = 0
# What each cache counts in the number of a set.
CACHE_BITS = (1, 2, 4, 8)
HOME = 0


class Leg:
    def __init__(self, from_place, to_place, least, most):
        self.from_place = from_place
        self.to_place = to_place
        self.least = least
        self.most = most


class Cache:
    def __init__(self, name, place, rations):
        self.name = name
        self.place = place
        self.rations = rations


class Land:
    """A land; until its text is read through, what has been read of it."""

    def __init__(self):
        self.places = []
        self.legs = []
        self.caches = []
        self.limit = USUAL_LIMIT
        self.limit_told = False
        self.storms = USUAL_STORMS
        self.storms_told = False


def place_called(land, name):
    """Give the number of the place with this name, or None."""
    if name in land.places:
        return land.places.index(name)
    return None


def cache_called(land, name):
    """Give the number of the cache with this name, or None."""
    for index, cache in enumerate(land.caches):
        if cache.name == name:
            return index
    return None


def find_leg(land, from_place, to_place):
    """Give the leg from one place to another, or None."""
    for leg in land.legs:
        if leg.from_place == from_place and leg.to_place == to_place:
            return leg
    return None


def is_new_name(land, word):
    return is_name(word) and place_called(land, word) is None and cache_called(land, word) is None


def add_place(land, name):
    if not is_new_name(land, name) or len(land.places) == MOST_PLACES:
        return False
    land.places.append(name)
    return True


def add_leg(land, from_name, to_name, least_word, most_word):
    from_place = place_called(land, from_name)
    to_place = place_called(land, to_name)
    least = number_within(least_word, 1, MOST_LEG_DAYS)
    most = number_within(most_word, 1, MOST_LEG_DAYS)
    if from_place is None or to_place is None or least is None or most is None:
        return False
    if from_place == to_place or most < least:
        return False
    if find_leg(land, from_place, to_place) is not None or len(land.legs) == MOST_LEGS:
        return False
    land.legs.append(Leg(from_place, to_place, least, most))
    return True


def add_way(land, one_name, other_name, least_word, most_word):
    there = add_leg(land, one_name, other_name, least_word, most_word)
    return there and add_leg(land, other_name, one_name, least_word, most_word)


def add_cache(land, name, place_name, rations_word):
    place = place_called(land, place_name)
    rations = number_within(rations_word, 1, MOST_RATIONS)
    if not is_new_name(land, name) or place is None or rations is None or len(land.caches) == MOST_CACHES:
        return False
    land.caches.append(Cache(name, place, rations))
    return True


def set_limit(land, word):
    limit = number_within(word, 1, MOST_LIMIT)
    if limit is None or land.limit_told:
        return False
    land.limit = limit
    land.limit_told = True
    return True


def set_storms(land, word):
    storms = number_within(word, 0, MOST_STORMS)
    if storms is None or land.storms_told:
        return False
    land.storms = storms
    land.storms_told = True
    return True


def take_land_line(land, words):
    """Add to the land what the line's words tell; answer False if the line is wrong.

    A wrong line may have been added in part: its land is not used.
    """
    first = words[0]
    if len(words) == 2 and first == "place":
        return add_place(land, words[1])
    if len(words) == 5 and first == "leg":
        return add_leg(land, words[1], words[2], words[3], words[4])
    if len(words) == 5 and first == "way":
        return add_way(land, words[1], words[2], words[3], words[4])
    if len(words) == 4 and first == "cache":
        return add_cache(land, words[1], words[2], words[3])
    if len(words) == 2 and first == "limit":
        return set_limit(land, words[1])
    if len(words) == 2 and first == "storms":
        return set_storms(land, words[1])
    return False


def leg_words(land, leg):
    return ["leg", land.places[leg.from_place], land.places[leg.to_place], str(leg.least), str(leg.most)]


def land_form(land):
    """Give the bytes of the land's one form."""
    lines = [["place", name] for name in land.places]
    lines.extend([leg_words(land, leg) for leg in land.legs])
    lines.extend([["cache", cache.name, land.places[cache.place], str(cache.rations)] for cache in land.caches])
    lines.append(["limit", str(land.limit)])
    lines.append(["storms", str(land.storms)])
    return bytes_of_lines(lines)


def whole_set(land):
    """Give the set of all caches of the land."""
    return sum(CACHE_BITS[:len(land.caches)])


def caches_in(held):
    """Give the numbers of the caches in a set, rising."""
    return [index for index, bit in enumerate(CACHE_BITS) if held & bit != 0]


def parts_of(held):
    """Give all sets that are a part of this one, rising; the empty one and itself too."""
    return [part for part in range(held + 1) if part & held == part]


def set_at(land, place):
    """Give the set of the caches at a place."""
    return sum([bit for bit, cache in zip(CACHE_BITS, land.caches) if cache.place == place])


def rations_in(land, taking):
    return sum([land.caches[index].rations for index in caches_in(taking)])
