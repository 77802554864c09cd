"""need: what food is enough, worked out by hand and food by food."""

import unittest

from tests.helpers import FAR_NUMBERS, ask, ask_last, land, need, some_land

# Two legs home, one cache on the way; the leg from home to the hut is one-way.
TRAIL = land("place home\nplace hut\nplace cape\nleg hut home 2 4\nleg cape hut 3 5\nleg home cape 1 1\n"
             "cache tin hut 3\nlimit 12\nstorms 2\n")


def side_depot(limit):
    """The way home is long; food lies on a way aside."""
    return land("place home\nplace camp\nplace depot\nleg camp home 9 9\nway camp depot 1 1\n"
                "cache box depot 10\nlimit %d" % limit)


class WorkedOut(unittest.TestCase):
    def assert_needs(self, told, p, s, needs):
        answer = ask(told, *[need(p, s, b) for b in range(len(needs))])[1:]
        self.assertEqual(answer, [[0] if food is None else [1, food] for food in needs])

    def test_home_needs_nothing(self):
        self.assert_needs(TRAIL, 0, 0, [0] * 9)
        self.assert_needs(TRAIL, 0, 1, [0] * 9)
        self.assert_needs(land("place a"), 0, 0, [0] * 9)

    def test_one_leg_storms_up_to_its_most_days(self):
        self.assert_needs(TRAIL, 1, 0, [2, 3, 4, 4, 4, 4, 4, 4, 4])

    def test_two_legs_share_the_storms(self):
        self.assert_needs(TRAIL, 2, 0, [5, 6, 7, 8, 9, 9, 9, 9, 9])

    def test_a_cache_at_the_place_and_on_the_way(self):
        self.assert_needs(TRAIL, 1, 1, [0, 0, 1, 1, 1])
        self.assert_needs(TRAIL, 2, 1, [3, 4, 5, 5, 6, 6])

    def test_no_leg_home(self):
        told = land("place a\nplace b\nplace c\nleg a b 1 1\nway b c 1 1\ncache x b 60")
        self.assert_needs(told, 1, 0, [None, None])
        self.assert_needs(told, 1, 1, [None] * 9)
        self.assert_needs(told, 2, 1, [None])

    def test_a_need_of_just_the_limit(self):
        text = "place a\nplace b\nleg b a 5 8\nlimit %d"
        self.assert_needs(land(text % 7), 1, 0, [5, 6, 7, None, None])
        self.assert_needs(land(text % 8), 1, 0, [5, 6, 7, 8, 8])

    def test_what_is_taken_is_cut_at_the_limit(self):
        text = "place a\nplace b\nleg b a 10 10\ncache x b 20\nlimit %d"
        self.assert_needs(land(text % 10), 1, 1, [0])
        self.assert_needs(land(text % 9), 1, 1, [None])
        two = "place a\nplace b\nleg b a 9 9\ncache x b 5\ncache y b 6\nlimit %d"
        self.assert_needs(land(two % 9), 1, 3, [0])
        self.assert_needs(land(two % 9), 1, 1, [4])
        self.assert_needs(land(two % 9), 1, 2, [3])
        self.assert_needs(land(two % 8), 1, 3, [None])

    def test_aside_for_food_and_back(self):
        self.assert_needs(side_depot(12), 1, 1, [1])
        self.assert_needs(side_depot(12), 1, 0, [9])
        self.assert_needs(side_depot(12), 2, 0, [10])
        self.assert_needs(side_depot(12), 2, 1, [0])

    def test_aside_for_food_that_cannot_be_carried(self):
        self.assert_needs(side_depot(10), 2, 0, [10])
        self.assert_needs(side_depot(10), 1, 1, [1])
        self.assert_needs(side_depot(9), 2, 0, [None])
        self.assert_needs(side_depot(9), 2, 1, [None])
        self.assert_needs(side_depot(9), 1, 1, [9])

    def test_the_better_of_two_ways_hangs_on_the_storms(self):
        # A short leg that storms make long, and a longer one that they don't.
        told = land("place a\nplace b\nleg b a 3 9\nplace c\nleg b c 2 2\nleg c a 4 4")
        self.assert_needs(told, 1, 0, [3, 4, 5, 6, 6, 6])

    def test_later_choices_may_hang_on_the_weather(self):
        # Behind b: if the storm came on the leg to c, the short leg is sure; else the long one is.
        told = land("place a\nplace b\nplace c\nplace d\nleg b c 1 2\nleg c a 1 4\nleg c d 1 1\nleg d a 2 2")
        self.assert_needs(told, 2, 0, [1, 2, 3, 3])
        self.assert_needs(told, 1, 0, [2, 3, 4, 5, 5])

    def test_caches_told_later_count_more(self):
        told = land("place a\nplace b\nleg b a 12 12\ncache w b 1\ncache x b 2\ncache y b 3\ncache z b 4")
        answer = ask(told, *[need(1, s, 0) for s in range(16)])[1:]
        rations = [sum((w + 1) for w in range(4) if s >> w & 1) for s in range(16)]
        self.assertEqual(answer, [[1, 12 - taken] for taken in rations])

    def test_a_cache_at_another_place_is_not_taken_from_afar(self):
        told = land("place a\nplace b\nplace c\nleg b a 5 5\nleg c a 5 5\ncache x c 5\ncache y a 5")
        self.assertEqual(ask(told, need(1, 3, 0), need(2, 3, 0))[1:], [[1, 5], [1, 0]])

    def test_the_lands_own_storm_days_are_only_told(self):
        text = "place a\nplace b\nleg b a 1 5\nstorms %d"
        for storms in range(9):
            self.assert_needs(land(text % storms), 1, 0, [1, 2, 3, 4, 5, 5, 5, 5, 5])

    def test_the_order_of_asking_does_not_matter(self):
        asked = [need(p, s, b) for p in range(3) for s in range(2) for b in range(9)]
        self.assertEqual(ask(TRAIL, *asked)[1:], ask(TRAIL, *reversed(asked))[:0:-1])


class FoodByFood(unittest.TestCase):
    def test_many_lands(self):
        for seed in range(120):
            slow = some_land(seed)
            asked = [(p, s, b) for p in range(slow.places) for s in range(2 ** len(slow.caches))
                     for b in range(5)]
            asked = asked[seed % 7::max(1, len(asked) // 50)][:50]
            expected = [slow.need(*party) for party in asked]
            self.assertEqual(ask(land(slow.text()), *[need(*party) for party in asked])[1:], expected, slow.text())

    def test_many_storms(self):
        for seed in range(1000, 1010):
            slow = some_land(seed)
            asked = [(p, 2 ** len(slow.caches) - 1, b) for p in range(slow.places) for b in range(8, 4, -1)]
            expected = [slow.need(*party) for party in asked]
            self.assertEqual(ask(land(slow.text()), *[need(*party) for party in asked])[1:], expected, slow.text())


class Refused(unittest.TestCase):
    def test_out_of_range(self):
        for number in FAR_NUMBERS:
            for call in (need(number, 0, 0), need(0, number, 0), need(0, 0, number)):
                self.assertEqual(ask(TRAIL, call)[1], [-1])
        for call in (need(7, 0, 0), need(0, 16, 0), need(0, 0, 9)):
            self.assertEqual(ask(TRAIL, call)[1], [-1])
            self.assertEqual(ask(call), [[-1]])

    def test_no_land(self):
        self.assertEqual(ask(need(0, 0, 0)), [[-2]])
        self.assertEqual(ask(need(6, 15, 8)), [[-2]])

    def test_not_in_the_land(self):
        for call in (need(3, 0, 0), need(6, 1, 0), need(0, 2, 0), need(0, 3, 0), need(2, 15, 8)):
            self.assertEqual(ask_last(TRAIL, call), [-3])


if __name__ == "__main__":
    unittest.main()
