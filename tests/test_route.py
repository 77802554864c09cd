"""route: point 12 of the promises."""

import random
import unittest

from tests.helpers import FAR_NUMBERS, JOURNEY, PLANFORM, ask, ask_last, land, need, plan, route, some_land

LEGS = "place home\nplace hut\nplace cape\nleg hut home 2 4\nleg cape hut 3 5\nleg cape home 9 9\nleg home cape 1 1\n"
LAND = land(LEGS + "cache tin hut 3\ncache box cape 5\ncache jar home 4\nlimit 20\n")
SHUTTLE = "place home\nplace hut\nplace cape\nway hut cape 1 2\nlimit %d\n"


def routed(*told):
    return ask_last(LAND, route(*told))


class Routes(unittest.TestCase):
    def test_one_leg(self):
        for storms, food in ((0, 2), (1, 3), (2, 4), (3, 4), (8, 4)):
            self.assertEqual(routed(1, 0, storms, [0, 0]), [1, food])
        self.assertEqual(routed(2, 0, 8, [0, 0]), [1, 9])

    def test_two_legs_share_the_storm_days(self):
        for storms, food in ((0, 5), (1, 6), (2, 7), (3, 8), (4, 9), (5, 9), (8, 9)):
            self.assertEqual(routed(2, 0, storms, [0, 1, 0, 0]), [1, food])

    def test_takings(self):
        self.assertEqual(routed(1, 1, 2, [1, 0]), [1, 1])
        self.assertEqual(routed(1, 1, 1, [1, 0]), [1, 0])
        self.assertEqual(routed(1, 1, 2, [0, 0]), [1, 4])
        self.assertEqual(routed(2, 3, 2, [2, 1, 1, 0]), [1, 0])
        self.assertEqual(routed(2, 3, 2, [2, 1, 0, 0]), [1, 2])
        # At the hut 0 to 1 rations must be left, by the storm days that are left; and 5 may be eaten on the leg there.
        self.assertEqual(routed(2, 3, 2, [0, 1, 1, 0]), [1, 5])

    def test_an_empty_list(self):
        for p in range(3):
            self.assertEqual(routed(p, 7, 8, []), [1, 0])

    def test_home_need_not_be_reached(self):
        self.assertEqual(routed(2, 0, 0, [0, 1]), [1, 3])

    def test_home_may_be_left_and_gone_through(self):
        self.assertEqual(routed(0, 0, 0, [0, 2]), [1, 1])
        self.assertEqual(routed(0, 4, 0, [4, 2, 0, 1]), [1, 0])
        self.assertEqual(routed(1, 6, 2, [0, 0, 4, 2, 2, 1]), [1, 4])
        self.assertEqual(routed(1, 6, 2, [0, 0, 0, 2, 0, 1]), [1, 8])

    def test_a_taking_that_may_not_be_done(self):
        self.assertEqual(routed(1, 0, 0, [1, 0]), [0])
        self.assertEqual(routed(1, 7, 0, [2, 0]), [0])
        self.assertEqual(routed(1, 7, 0, [3, 0]), [0])
        self.assertEqual(routed(1, 7, 0, [8, 0]), [0])
        self.assertEqual(routed(2, 7, 0, [2, 1, 2, 0]), [0])
        self.assertEqual(routed(2, 7, 0, [1, 1, 0, 0]), [0])
        # A cache is there once: the second time the party comes by, it's in its set no more.
        self.assertEqual(routed(2, 7, 0, [2, 1, 0, 0, 0, 2, 2, 1]), [0])
        self.assertEqual(routed(2, 7, 0, [2, 1, 0, 0, 0, 2, 0, 1])[0], 1)

    def test_a_leg_that_is_not_there(self):
        for q in (1, 2) + tuple(range(3, 16)):
            self.assertEqual(routed(1, 7, 0, [0, q]), [0])
            self.assertEqual(routed(2, 7, 0, [0, 1, 0, q]), [0])
        self.assertEqual(routed(0, 7, 0, [0, 0]), [0])

    def test_just_the_limit(self):
        for limit, answer in ((8, [1, 7]), (7, [1, 7]), (6, [0])):
            self.assertEqual(ask_last(land(LEGS + "limit %d" % limit), route(2, 0, 2, [0, 1, 0, 0])), answer)
        self.assertEqual(ask_last(land(LEGS + "limit 60"), route(2, 0, 8, [0, 1, 0, 0])), [1, 9])

    def test_more_than_can_be_carried(self):
        for limit, answer in ((8, [1, 0]), (7, [1, 0]), (6, [0])):
            told = land(LEGS + "cache box cape 60\nlimit %d" % limit)
            self.assertEqual(ask_last(told, route(2, 1, 2, [1, 1, 0, 0])), answer)

    def test_too_much_on_a_leg_behind_a_taking(self):
        # 4 rations may be missing at the hut, but the tin has 60 there.
        told = LEGS + "cache tin hut 60\nlimit %d"
        self.assertEqual(ask_last(land(told % 5), route(2, 1, 2, [0, 1, 1, 0])), [1, 5])
        self.assertEqual(ask_last(land(told % 4), route(2, 1, 2, [0, 1, 1, 0])), [0])
        self.assertEqual(ask_last(land(told % 4), route(2, 1, 1, [0, 1, 1, 0])), [1, 4])

    def test_a_lost_end_is_not_healed_by_rations_ahead(self):
        told = ("place home\nplace a\nplace b\nplace c\nleg c b 1 1\nleg b a 1 1\nleg a home 6 6\n"
                "cache w c 60\ncache x b 60\ncache y a 1\nlimit %d")
        calls = [route(3, 7, 0, pairs) for pairs in ([1, 2, 2, 1, 4, 0], [1, 2, 2, 1, 0, 0], [1, 2, 0, 1, 4, 0])]
        self.assertEqual(ask(land(told % 5), *calls)[1:], [[0], [0], [0]])
        self.assertEqual(ask(land(told % 6), *calls)[1:], [[1, 0], [0], [0]])
        self.assertEqual(ask(land(told % 7), *calls)[1:], [[1, 0], [1, 0], [1, 0]])

    def test_twelve_pairs(self):
        pairs = [0, 2, 0, 1] * 6
        for limit, answer in ((60, [1, 12]), (12, [1, 12]), (11, [0])):
            self.assertEqual(ask_last(land(SHUTTLE % limit), route(1, 0, 0, pairs)), answer)
        for storms in range(9):
            self.assertEqual(ask_last(land(SHUTTLE % 60), route(1, 0, storms, pairs)), [1, 12 + storms])
        self.assertEqual(ask_last(land(SHUTTLE % 60), route(1, 0, 0, pairs[:-1] + [3])), [0])
        self.assertEqual(ask_last(land(SHUTTLE % 60), route(1, 0, 8, pairs[:6])), [1, 6])

    def test_the_plan_does_not_count(self):
        told = ask(LAND, plan("at hut : go cape"), route(1, 0, 0, [0, 0]))
        self.assertEqual(told[2], [1, 2])


class AgainstASlowReckoning(unittest.TestCase):
    def some_pairs(self, source, slow, p, s):
        pairs = []
        for number in range(source.randint(0, 6)):
            options = slow.options(p, s)
            if not options or source.random() < 0.03:
                return pairs + [(source.randrange(16), source.randrange(16))]
            t, q = source.choice(options)
            pairs.append((t, q))
            p, s = q, s - t
        return pairs

    def test_some_lands(self):
        found = 0
        for seed in range(250):
            slow = some_land(seed)
            source = random.Random(seed)
            told = []
            for number in range(20):
                p, s, b = source.randrange(slow.places), source.randrange(2 ** len(slow.caches)), source.randint(0, 3)
                told.append((p, s, b, self.some_pairs(source, slow, p, s)))
            answer = ask(land(slow.text()), *[route(p, s, b, sum(pairs, ())) for p, s, b, pairs in told])[1:]
            self.assertEqual(answer, [slow.route(*each) for each in told], seed)
            found += sum(each[0] for each in answer)
        self.assertGreater(found, 1000)


class Refusals(unittest.TestCase):
    def test_out_of_range(self):
        for number in FAR_NUMBERS:
            for place in range(3):
                call = route(1, 0, 0, [0, 0])
                call[1 + place] = number
                self.assertEqual(ask_last(LAND, call), [-1])
                self.assertEqual(ask(call), [[-1]])
        for call in (route(7, 0, 0, []), route(0, 16, 0, []), route(0, 0, 9, [])):
            self.assertEqual(ask_last(LAND, call), [-1])

    def test_wrong_lists(self):
        for number in FAR_NUMBERS + (16,):
            for pairs in ([number, 0], [0, number], [0, 0, 0, number], [0] * 23 + [number]):
                self.assertEqual(routed(1, 0, 0, pairs), [-1])
                self.assertEqual(ask(route(1, 0, 0, pairs)), [[-1]])
        for length in (1, 3, 11, 23, 25, 26, 27, 28, 2094, 2095):
            self.assertEqual(routed(1, 0, 0, [0] * length), [-1])
            self.assertEqual(ask(route(1, 0, 0, [0] * length)), [[-1]])
        self.assertEqual(routed(1, 0, 0, [15] * 24), [0])

    def test_the_next_call_stands_behind_the_list(self):
        self.assertEqual(ask(LAND, route(1, 0, 0, [99] * 2095), need(1, 0, 1))[1:], [[-1], [1, 3]])
        self.assertEqual(ask(LAND, route(1, 0, 0, [0]), need(1, 0, 1))[1:], [[-1], [1, 3]])

    def test_not_in_the_land(self):
        for p, s in ((3, 0), (6, 0), (1, 8), (0, 15), (6, 15)):
            for pairs in ([], [0, 0], [15] * 24):
                self.assertEqual(routed(p, s, 0, pairs), [-3])
                self.assertEqual(ask(route(p, s, 0, pairs)), [[-2]])
            self.assertEqual(routed(p, s, 0, [0]), [-1])
            self.assertEqual(routed(p, s, 0, [16, 0]), [-1])

    def test_route_changes_nothing(self):
        around = [PLANFORM, need(2, 3, 2), JOURNEY]
        answer = ask(LAND, *around, route(2, 3, 2, [2, 1]), route(2, 3, 2, [1, 1]), route(9, 0, 0, []), *around)
        self.assertEqual(answer[-3:], answer[1:4])


if __name__ == "__main__":
    unittest.main()
