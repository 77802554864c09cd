"""What the tests share: calls as lists, answers taken apart, and a slow reckoning by the document's words."""

import random

from stormhome.desk import answers

LOW = -9223372036854775808
HIGH = 9223372036854775807
FAR_NUMBERS = (LOW, LOW + 1, -1000, -1, 1000, 2 ** 32, HIGH - 1, HIGH)


def row_of(text):
    return list(text.encode("latin-1"))


def with_row(number, row):
    return [number, len(row)] + list(row)


def land(text):
    return with_row(0, row_of(text))


def plan(text):
    return with_row(7, row_of(text))


FORM = [1]
PLANFORM = [8]
JOURNEY = [16]
LOG = [17]


def need(p, s, b):
    return [2, p, s, b]


def choices(p, s, b, f):
    return [3, p, s, b, f]


def give(p, s, b, f):
    return [4, p, s, b, f]


def stand(p, s, f):
    return [5, p, s, f]


def resist(p, s, b, f, t, q):
    return [6, p, s, b, f, t, q]


def rule(p, s, b, f):
    return [9, p, s, b, f]


def check(p, s, b, f):
    return [10, p, s, b, f]


def follow(p, s, b, f, extras):
    return [11, p, s, b, f, len(extras)] + list(extras)


def route(p, s, b, pairs):
    return [12, p, s, b, len(pairs)] + list(pairs)


def begin(p, s, b, f, strict):
    return [13, p, s, b, f, strict]


def move(t, q):
    return [14, t, q]


def weather(k):
    return [15, k]


def bear(t, q):
    return [18, t, q]


def text_answer(text):
    row = row_of(text)
    return [len(row)] + row


def split_answers(flat):
    parts = []
    at = 0
    while at < len(flat):
        parts.append(flat[at + 1:at + 1 + flat[at]])
        at += 1 + flat[at]
    return parts


def ask(*calls):
    """Answer the calls on one object: a list for each."""
    parts = split_answers(answers([number for call in calls for number in call]))
    assert len(parts) == len(calls), "as many answers as calls"
    return parts


def ask_last(*calls):
    return ask(*calls)[-1]


class SlowLand:
    """A land told by plain lists, with 'enough' reckoned food by food, straight from its definition."""

    def __init__(self, places, legs, caches, limit):
        self.places = places
        self.legs = legs
        self.caches = caches
        self.limit = limit
        self.known = {}

    def text(self):
        lines = ["place p%d" % number for number in range(self.places)]
        lines += ["leg p%d p%d %d %d" % leg for leg in self.legs]
        lines += ["cache c%d p%d %d" % (number, place, rations)
                  for number, (place, rations) in enumerate(self.caches)]
        return "\n".join(lines + ["limit %d" % self.limit])

    def takings(self, p, s):
        here = sum(2 ** number for number, cache in enumerate(self.caches) if cache[0] == p)
        return [t for t in range(16) if t & ~s == 0 and t & ~here == 0]

    def filled(self, f, t):
        return min(self.limit, f + sum(cache[1] for number, cache in enumerate(self.caches) if t >> number & 1))

    def worst(self, p, s, b, f, t, q):
        """The least k behind which the party is lost or its food isn't enough; None if there's none."""
        least, most = [(leg[2], leg[3]) for leg in self.legs if leg[:2] == (p, q)][0]
        food = self.filled(f, t)
        for k in range(min(most - least, b) + 1):
            if food < least + k or not self.enough(q, s - t, b - k, food - least - k):
                return k
        return None

    def options(self, p, s):
        ends = sorted(leg[1] for leg in self.legs if leg[0] == p)
        return [(t, q) for t in self.takings(p, s) for q in ends]

    def enough(self, p, s, b, f):
        if p == 0:
            return True
        key = (p, s, b, f)
        if key not in self.known:
            self.known[key] = any(self.worst(p, s, b, f, t, q) is None for t, q in self.options(p, s))
        return self.known[key]

    def need(self, p, s, b):
        for f in range(self.limit + 1):
            if self.enough(p, s, b, f):
                return [1, f]
        return [0]

    def choices(self, p, s, b, f):
        safe = [o for o in self.options(p, s) if p != 0 and self.worst(p, s, b, f, *o) is None]
        return [len(safe)] + [number for option in safe for number in option]

    def give(self, p, s, b, f):
        spare = [c for c in range(4) if s >> c & 1 and self.enough(p, s - 2 ** c, b, f)]
        return [len(spare)] + spare

    def stand(self, p, s, f):
        return [max([b for b in range(9) if self.enough(p, s, b, f)], default=-4)]

    def resist(self, p, s, b, f, t, q):
        if p == 0 or (t, q) not in self.options(p, s):
            return [-4]
        k = self.worst(p, s, b, f, t, q)
        return [-5 if k is None else k]

    def days(self, p, q):
        """The least and most days of the leg, or None."""
        return next(((leg[2], leg[3]) for leg in self.legs if leg[:2] == (p, q)), None)

    def doable(self, p, s, t, q):
        return t in self.takings(p, s) and self.days(p, q) is not None

    def extras(self, p, q, b):
        """All k that the weather may choose on the leg."""
        least, most = self.days(p, q)
        return [k for k in range(13) if least + k <= most and k <= b]

    def go(self, party, t, q, k):
        """The party behind the choice and k; its food is below 0 if it's lost."""
        p, s, b, f = party
        return q, s - t, b - k, self.filled(f, t) - self.days(p, q)[0] - k

    def never_lost(self, party, pairs):
        """Tell if these takings and legs can be done whatever the weather does, weather by weather."""
        if not pairs:
            return True
        t, q = pairs[0]
        if not self.doable(party[0], party[1], t, q):
            return False
        behind = [self.go(party, t, q, k) for k in self.extras(party[0], q, party[2])]
        return all(later[3] >= 0 and self.never_lost(later, pairs[1:]) for later in behind)

    def route(self, p, s, b, pairs):
        for f in range(self.limit + 1):
            if self.never_lost((p, s, b, f), pairs):
                return [1, f]
        return [0]


class SlowPlan:
    """A plan told by plain lists, followed weather by weather. A rule: place, conditions, caches, end."""

    def __init__(self, slow, rules):
        self.slow = slow
        self.rules = rules

    def text(self):
        lines = []
        for place, conditions, caches, end in self.rules:
            words = ["at p%d" % place] + [" ".join(str(word) for word in condition) for condition in conditions]
            words += [":"] + (["take"] + ["c%d" % cache for cache in caches] if caches else []) + ["go p%d" % end]
            lines.append(" ".join(words))
        return "\n".join(lines)

    def holds(self, condition, party):
        if condition[0] in ("have", "lack"):
            return (party[1] // 2 ** int(condition[1][1:]) % 2 == 1) == (condition[0] == "have")
        amount = party[3] if condition[0] == "food" else party[2]
        return (amount < condition[2]) == (condition[1] == "<")

    def choice(self, party):
        """The taking and end that the party goes by; 2 or 3 if the plan fails that way."""
        for place, conditions, caches, end in self.rules:
            if place == party[0] and all(self.holds(condition, party) for condition in conditions):
                taking = sum(2 ** cache for cache in set(caches))
                return (taking, end) if self.slow.doable(party[0], party[1], taking, end) else 3
        return 2

    def follow(self, party, extras):
        told = []
        for k in list(extras) + [None]:
            legs = len(told) // 2
            choice = self.choice(party)
            if party[0] == 0 or k is None:
                return [0 if party[0] == 0 else 4, legs] + told
            if choice in (2, 3):
                return [choice, legs] + told
            if k not in self.slow.extras(party[0], choice[1], party[2]):
                return [5, legs] + told
            party = self.slow.go(party, *choice, k)
            if party[3] < 0:
                return [1, legs] + told
            told += [party[0], party[3]]

    def check(self, party):
        """All weathers, the shorter ones first, then by their extra days: none is left out as known already."""
        met = set()
        level = [((), party)]
        while level:
            later = []
            for extras, here in level:
                met.add(here)
                if here[0] == 0:
                    continue
                choice = self.choice(here)
                if choice in (2, 3):
                    return [0, choice, len(extras)] + list(extras)
                for k in self.slow.extras(here[0], choice[1], here[2]):
                    later.append((extras + (k,), self.slow.go(here, *choice, k)))
                    if later[-1][1][3] < 0:
                        return [0, 1, len(extras) + 1] + list(extras) + [k]
            level = later
        return [1, len(met)]


class SlowJourney:
    """A journey by the document's words, call by call, on a slow land."""

    def __init__(self, slow):
        self.slow = slow
        self.party = None

    def begin(self, p, s, b, f, strict):
        if strict and not self.slow.enough(p, s, b, f):
            return [-4]
        self.party, self.strict, self.leg, self.lost, self.legs = (p, s, b, f), strict, None, False, []
        return [0]

    def choice_refusal(self, t, q):
        if self.party is None:
            return -3
        if self.leg or self.lost or self.party[0] == 0:
            return -4
        if t not in self.slow.takings(*self.party[:2]):
            return -5
        return 0 if self.slow.days(self.party[0], q) else -6

    def move(self, t, q):
        refusal = self.choice_refusal(t, q)
        if refusal == 0 and self.strict and self.slow.worst(*self.party, t, q) is not None:
            refusal = -7
        if refusal:
            return [refusal]
        p, s, b, f = self.party
        self.leg = (p, t, q)
        self.party = (p, s - t, b, self.slow.filled(f, t))
        return [0, self.party[3], self.slow.extras(p, q, b)[-1]]

    def bear(self, t, q):
        refusal = self.choice_refusal(t, q)
        if refusal:
            return [refusal]
        k = self.slow.worst(*self.party, t, q)
        return [1] if k is None else [0, k]

    def weather(self, k):
        if self.party is None:
            return [-3]
        if not self.leg:
            return [-4]
        if k not in self.slow.extras(self.leg[0], self.leg[2], self.party[2]):
            return [-5]
        p, s, b, f = self.slow.go(self.party, 0, self.leg[2], k)
        self.lost = f < 0
        self.party = (p, s, b, max(f, 0))
        self.legs += [*self.leg, k]
        self.leg = None
        return [int(self.lost), *self.party]

    def journey(self):
        if self.party is None:
            return [-3]
        state = 3 if self.lost else 1 if self.leg else 2 if self.party[0] == 0 else 0
        return [state, self.strict, *self.party] + (self.slow.need(*self.party[:3]) if state in (0, 2) else [])

    def log(self):
        return [-3] if self.party is None else [len(self.legs) // 4] + self.legs

    def some_call(self, source):
        """A call as a list, and its answer; mostly one that leads the journey on."""
        kind = source.random()
        if kind < 0.07 or self.party is None and 0.4 < kind < 0.9:
            told = [source.randrange(self.slow.places), source.randrange(2 ** len(self.slow.caches)),
                    source.randint(0, 5), source.randint(self.slow.limit // 2, self.slow.limit), source.randint(0, 1)]
            return begin(*told), self.begin(*told)
        if kind < 0.25:
            return JOURNEY, self.journey()
        if kind < 0.4:
            return LOG, self.log()
        if self.party and (self.leg and kind < 0.9 or kind > 0.97):
            allowed = self.slow.extras(self.leg[0], self.leg[2], self.party[2]) if self.leg else []
            k = source.choice(allowed + [source.randint(0, 12)])
            return weather(k), self.weather(k)
        options = [(source.randint(0, 15), source.randint(0, 6))]
        if self.party and kind < 0.95:
            options = self.slow.options(*self.party[:2]) or options
        t, q = source.choice(options)
        return (move(t, q), self.move(t, q)) if source.random() < 0.7 else (bear(t, q), self.bear(t, q))


def some_plan(slow, seed):
    """A plan for the land that is always the same for the same seed; most of its rules can be done."""
    source = random.Random(seed)
    rules = []
    for place in list(range(slow.places)) * 3:
        here = [number for number, cache in enumerate(slow.caches) if cache[0] == place]
        ends = [leg[1] for leg in slow.legs if leg[0] == place] or [0]
        conditions = []
        if source.random() < 0.4:
            conditions.append(("food", source.choice((">=", "<")), source.randint(0, slow.limit)))
        if source.random() < 0.4:
            conditions.append(("storms", source.choice((">=", "<")), source.randint(0, 4)))
        caches = [cache for cache in here if source.random() < 0.7]
        conditions += [("have", "c%d" % cache) for cache in caches if source.random() < 0.9]
        if source.random() < 0.02:
            caches, ends = list(range(len(slow.caches))), list(range(slow.places))
        rules.append((place, conditions, caches, source.choice(ends)))
    return SlowPlan(slow, rules)


def some_land(seed):
    """A land that is always the same for the same seed."""
    source = random.Random(seed)
    places = source.randint(2, 7)
    pairs = [(a, b) for a in range(places) for b in range(places) if a != b]
    source.shuffle(pairs)
    legs = []
    for a, b in pairs[:source.randint(places - 1, min(len(pairs), 24))]:
        least = source.randint(1, 6)
        legs.append((a, b, least, min(12, least + source.randint(0, 4))))
    caches = [(source.randrange(places), source.randint(1, 9)) for number in range(source.randint(0, 4))]
    return SlowLand(places, legs, caches, source.randint(6, 24))
