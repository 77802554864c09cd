"""What the tests share: calls as lists, answers taken apart, and a slow reckoning by the document's words."""

import random

from stormhome.desk import answers

LOW = -9223372036854775808
HIGH = 9223372036854775807
FAR_NUMBERS = (LOW, LOW + 1, -1000, -1, 1000, 2 ** 32, HIGH - 1, HIGH)


def row_of(text):
    return list(text.encode("latin-1"))


def with_row(number, row):
    return [number, len(row)] + list(row)


def land(text):
    return with_row(0, row_of(text))


def plan(text):
    return with_row(7, row_of(text))


FORM = [1]
PLANFORM = [8]


def need(p, s, b):
    return [2, p, s, b]


def choices(p, s, b, f):
    return [3, p, s, b, f]


def give(p, s, b, f):
    return [4, p, s, b, f]


def stand(p, s, f):
    return [5, p, s, f]


def resist(p, s, b, f, t, q):
    return [6, p, s, b, f, t, q]


def rule(p, s, b, f):
    return [9, p, s, b, f]


def text_answer(text):
    row = row_of(text)
    return [len(row)] + row


def split_answers(flat):
    parts = []
    at = 0
    while at < len(flat):
        parts.append(flat[at + 1:at + 1 + flat[at]])
        at += 1 + flat[at]
    return parts


def ask(*calls):
    """Answer the calls on one object: a list for each."""
    parts = split_answers(answers([number for call in calls for number in call]))
    assert len(parts) == len(calls), "as many answers as calls"
    return parts


def ask_last(*calls):
    return ask(*calls)[-1]


class SlowLand:
    """A land told by plain lists, with 'enough' reckoned food by food, straight from its definition."""

    def __init__(self, places, legs, caches, limit):
        self.places = places
        self.legs = legs
        self.caches = caches
        self.limit = limit
        self.known = {}

    def text(self):
        lines = ["place p%d" % number for number in range(self.places)]
        lines += ["leg p%d p%d %d %d" % leg for leg in self.legs]
        lines += ["cache c%d p%d %d" % (number, place, rations)
                  for number, (place, rations) in enumerate(self.caches)]
        return "\n".join(lines + ["limit %d" % self.limit])

    def takings(self, p, s):
        here = sum(2 ** number for number, cache in enumerate(self.caches) if cache[0] == p)
        return [t for t in range(16) if t & ~s == 0 and t & ~here == 0]

    def filled(self, f, t):
        return min(self.limit, f + sum(cache[1] for number, cache in enumerate(self.caches) if t >> number & 1))

    def worst(self, p, s, b, f, t, q):
        """The least k behind which the party is lost or its food isn't enough; None if there's none."""
        least, most = [(leg[2], leg[3]) for leg in self.legs if leg[:2] == (p, q)][0]
        food = self.filled(f, t)
        for k in range(min(most - least, b) + 1):
            if food < least + k or not self.enough(q, s - t, b - k, food - least - k):
                return k
        return None

    def options(self, p, s):
        ends = sorted(leg[1] for leg in self.legs if leg[0] == p)
        return [(t, q) for t in self.takings(p, s) for q in ends]

    def enough(self, p, s, b, f):
        if p == 0:
            return True
        key = (p, s, b, f)
        if key not in self.known:
            self.known[key] = any(self.worst(p, s, b, f, t, q) is None for t, q in self.options(p, s))
        return self.known[key]

    def need(self, p, s, b):
        for f in range(self.limit + 1):
            if self.enough(p, s, b, f):
                return [1, f]
        return [0]

    def choices(self, p, s, b, f):
        safe = [o for o in self.options(p, s) if p != 0 and self.worst(p, s, b, f, *o) is None]
        return [len(safe)] + [number for option in safe for number in option]

    def give(self, p, s, b, f):
        spare = [c for c in range(4) if s >> c & 1 and self.enough(p, s - 2 ** c, b, f)]
        return [len(spare)] + spare

    def stand(self, p, s, f):
        return [max([b for b in range(9) if self.enough(p, s, b, f)], default=-4)]

    def resist(self, p, s, b, f, t, q):
        if p == 0 or (t, q) not in self.options(p, s):
            return [-4]
        k = self.worst(p, s, b, f, t, q)
        return [-5 if k is None else k]


def some_land(seed):
    """A land that is always the same for the same seed."""
    source = random.Random(seed)
    places = source.randint(2, 7)
    pairs = [(a, b) for a in range(places) for b in range(places) if a != b]
    source.shuffle(pairs)
    legs = []
    for a, b in pairs[:source.randint(places - 1, min(len(pairs), 24))]:
        least = source.randint(1, 6)
        legs.append((a, b, least, min(12, least + source.randint(0, 4))))
    caches = [(source.randrange(places), source.randint(1, 9)) for number in range(source.randint(0, 4))]
    return SlowLand(places, legs, caches, source.randint(6, 24))
