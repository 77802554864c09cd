"""choices, give, stand and resist: points 3 to 6 of the promises."""

import random
import unittest

from tests.helpers import FAR_NUMBERS, ask, ask_last, choices, give, land, need, resist, some_land, stand

# Needs at the hut without the tin, by storm days: 2 3 4 4 .., with it: 0 0 1 1 ..;
# at the cape without it: 5 6 7 8 9 9 .., with it: 3 4 5 5 6 6 ..
TRAIL = land("place home\nplace hut\nplace cape\nleg hut home 2 4\nleg cape hut 3 5\nleg home cape 1 1\n"
             "cache tin hut 3\nlimit 12\nstorms 2\n")

# Legs from the camp are told backwards; two of its caches stand with another's between them.
STAR = land("place home\nplace camp\nplace east\nplace west\nleg camp west 1 1\nleg camp east 2 2\nleg camp home 4 6\n"
            "leg east home 3 3\nleg west home 6 6\ncache x camp 2\ncache y east 3\ncache z camp 4\nlimit 9")


class Choices(unittest.TestCase):
    def test_at_home(self):
        self.assertEqual(ask_last(TRAIL, choices(0, 1, 2, 12)), [0])

    def test_taking_makes_it_safe(self):
        self.assertEqual(ask_last(TRAIL, choices(1, 1, 2, 0)), [0])
        self.assertEqual(ask_last(TRAIL, choices(1, 1, 2, 1)), [1, 1, 0])
        self.assertEqual(ask_last(TRAIL, choices(1, 1, 2, 4)), [2, 0, 0, 1, 0])
        self.assertEqual(ask_last(TRAIL, choices(1, 0, 2, 4)), [1, 0, 0])
        self.assertEqual(ask_last(TRAIL, choices(1, 0, 2, 3)), [0])

    def test_safe_by_a_cache_further_on(self):
        self.assertEqual(ask_last(TRAIL, choices(2, 1, 2, 5)), [1, 0, 1])
        self.assertEqual(ask_last(TRAIL, choices(2, 1, 2, 4)), [0])
        self.assertEqual(ask_last(TRAIL, choices(2, 0, 2, 6)), [0])

    def test_by_the_taking_then_by_the_end(self):
        # Home, east and west ask for 4, 5 and 7; the food behind the takings 0, 1, 4, 5 is 4, 6, 8 and (cut) 9.
        expected = [9, 0, 0, 1, 0, 1, 2, 4, 0, 4, 2, 4, 3, 5, 0, 5, 2, 5, 3]
        self.assertEqual(ask_last(STAR, choices(1, 5, 0, 4)), expected)

    def test_with_storms_and_a_cache_aside(self):
        # With two storm days home asks for 6; with y the east asks for 2 and 0 behind it.
        self.assertEqual(ask_last(STAR, choices(1, 0, 2, 5)), [1, 0, 2])
        self.assertEqual(ask_last(STAR, choices(1, 2, 2, 2)), [1, 0, 2])
        self.assertEqual(ask_last(STAR, choices(1, 0, 2, 9)), [3, 0, 0, 0, 2, 0, 3])

    def test_the_limit_when_taking(self):
        told = "place a\nplace b\nleg b a 6 6\ncache x b 5\nlimit %d"
        self.assertEqual(ask_last(land(told % 6), choices(1, 1, 0, 4)), [1, 1, 0])
        self.assertEqual(ask_last(land(told % 5), choices(1, 1, 0, 5)), [0])

    def test_going_round_is_safe_too(self):
        told = land("place a\nplace b\nplace c\nleg b a 2 2\nway b c 1 1\nlimit 9")
        self.assertEqual(ask_last(told, choices(1, 0, 0, 3)), [1, 0, 0])
        self.assertEqual(ask_last(told, choices(1, 0, 0, 4)), [2, 0, 0, 0, 2])
        self.assertEqual(ask_last(told, choices(2, 0, 0, 3)), [1, 0, 1])


class Give(unittest.TestCase):
    def test_one_cache(self):
        self.assertEqual(ask_last(TRAIL, give(2, 1, 2, 7)), [1, 0])
        self.assertEqual(ask_last(TRAIL, give(2, 1, 2, 6)), [0])
        self.assertEqual(ask_last(TRAIL, give(2, 0, 2, 12)), [0])

    def test_each_alone(self):
        told = land("place a\nplace b\nleg b a 9 9\ncache w a 1\ncache x b 4\ncache y b 4\ncache z b 7\nlimit 20")
        self.assertEqual(ask_last(told, give(1, 15, 0, 2)), [4, 0, 1, 2, 3])
        self.assertEqual(ask_last(told, give(1, 15, 0, 0)), [3, 0, 1, 2])
        self.assertEqual(ask_last(told, give(1, 14, 0, 0)), [2, 1, 2])
        self.assertEqual(ask_last(told, give(1, 6, 0, 1)), [0])
        self.assertEqual(ask_last(told, give(1, 6, 0, 5)), [2, 1, 2])

    def test_at_home_all_of_the_set(self):
        self.assertEqual(ask_last(TRAIL, give(0, 1, 8, 0)), [1, 0])
        self.assertEqual(ask_last(STAR, give(0, 6, 8, 0)), [2, 1, 2])
        self.assertEqual(ask_last(STAR, give(0, 0, 8, 0)), [0])

    def test_where_no_food_is_enough(self):
        self.assertEqual(ask_last(land("place a\nplace b\ncache x b 60"), give(1, 1, 0, 30)), [0])


class Stand(unittest.TestCase):
    def test_by_food(self):
        answer = ask(TRAIL, *[stand(2, 0, f) for f in range(13)])[1:]
        self.assertEqual(answer, [[-4]] * 5 + [[0], [1], [2], [3]] + [[8]] * 4)

    def test_with_a_cache(self):
        answer = ask(TRAIL, *[stand(2, 1, f) for f in range(7)])[1:]
        self.assertEqual(answer, [[-4], [-4], [-4], [0], [1], [3], [8]])

    def test_at_home(self):
        self.assertEqual(ask_last(TRAIL, stand(0, 0, 0)), [8])

    def test_long_storms(self):
        told = land("place a\nplace b\nleg b a 1 12\nlimit 9")
        self.assertEqual(ask(told, *[stand(1, 0, f) for f in (0, 1, 5, 7, 8, 9)])[1:], [[-4], [0], [4], [6], [7], [8]])

    def test_no_food_is_enough(self):
        self.assertEqual(ask_last(land("place a\nplace b"), stand(1, 0, 30)), [-4])


class Resist(unittest.TestCase):
    def test_the_least_k(self):
        self.assertEqual(ask_last(TRAIL, resist(1, 0, 2, 3, 0, 0)), [2])
        self.assertEqual(ask_last(TRAIL, resist(1, 0, 2, 2, 0, 0)), [1])
        self.assertEqual(ask_last(TRAIL, resist(1, 0, 2, 1, 0, 0)), [0])

    def test_not_lost_but_not_safe(self):
        self.assertEqual(ask_last(TRAIL, resist(2, 0, 2, 6, 0, 1)), [0])
        self.assertEqual(ask_last(TRAIL, resist(2, 0, 3, 7, 0, 1)), [1])
        self.assertEqual(ask_last(TRAIL, resist(2, 0, 4, 8, 0, 1)), [2])

    def test_safe(self):
        self.assertEqual(ask_last(TRAIL, resist(2, 0, 2, 7, 0, 1)), [-5])
        self.assertEqual(ask_last(TRAIL, resist(1, 1, 2, 1, 1, 0)), [-5])

    def test_k_at_the_smaller_of_its_two_bounds(self):
        # One storm day alone, though the leg would bear two; two extra days alone, though eight storm days may come.
        self.assertEqual(ask_last(TRAIL, resist(1, 0, 1, 3, 0, 0)), [-5])
        self.assertEqual(ask_last(TRAIL, resist(1, 0, 8, 4, 0, 0)), [-5])
        self.assertEqual(ask_last(TRAIL, resist(1, 0, 8, 3, 0, 0)), [2])

    def test_the_limit_when_taking(self):
        told = land("place a\nplace b\nleg b a 4 9\ncache x b 9\nlimit 6")
        self.assertEqual(ask_last(told, resist(1, 1, 8, 6, 1, 0)), [3])
        self.assertEqual(ask_last(told, resist(1, 1, 2, 0, 1, 0)), [-5])

    def test_a_safe_party_with_an_unsafe_choice(self):
        self.assertEqual(ask_last(STAR, resist(1, 0, 0, 6, 0, 3)), [0])
        self.assertEqual(ask_last(STAR, resist(1, 0, 0, 6, 0, 0)), [-5])

    def test_at_home(self):
        self.assertEqual(ask_last(TRAIL, resist(0, 0, 0, 12, 0, 2)), [-4])

    def test_takings_that_may_not_be_done(self):
        for call in (resist(2, 1, 0, 12, 1, 1), resist(1, 0, 0, 12, 1, 0), resist(1, 1, 0, 12, 2, 0),
                     resist(1, 1, 0, 0, 3, 0), resist(1, 1, 0, 12, 15, 0)):
            self.assertEqual(ask_last(TRAIL, call), [-4])
        self.assertEqual(ask_last(STAR, resist(1, 7, 0, 9, 2, 0)), [-4])
        self.assertEqual(ask_last(STAR, resist(1, 7, 0, 9, 7, 0)), [-4])
        self.assertEqual(ask_last(STAR, resist(1, 4, 0, 9, 5, 0)), [-4])
        self.assertEqual(ask_last(STAR, resist(1, 5, 0, 0, 5, 0)), [-5])

    def test_no_such_leg(self):
        for end in (1, 2, 3, 6):
            self.assertEqual(ask_last(TRAIL, resist(1, 1, 0, 12, 0, end)), [-4])
        self.assertEqual(ask_last(TRAIL, resist(2, 1, 0, 12, 0, 0)), [-4])


class FoodByFood(unittest.TestCase):
    def test_many_lands(self):
        for seed in range(200, 280):
            slow = some_land(seed)
            source = random.Random(seed)
            calls = [land(slow.text())]
            expected = []
            for number in range(14):
                p, s = source.randrange(slow.places), source.randrange(2 ** len(slow.caches))
                b, f = source.randrange(6), source.randrange(slow.limit + 1)
                t, q = source.choice(slow.options(p, s) + [(source.randrange(16), source.randrange(7))])
                calls += [choices(p, s, b, f), give(p, s, b, f), stand(p, s, f), resist(p, s, b, f, t, q)]
                expected += [slow.choices(p, s, b, f), slow.give(p, s, b, f), slow.stand(p, s, f),
                             slow.resist(p, s, b, f, t, q)]
            self.assertEqual(ask(*calls)[1:], expected, slow.text())


class Refused(unittest.TestCase):
    PARTIES = ((3, (1, 1, 2, 4)), (4, (1, 1, 2, 4)), (6, (1, 1, 2, 4, 1, 0)))

    def calls(self):
        """Each call with a right list of numbers, and the number that each of them may not be more than."""
        for number, numbers in self.PARTIES:
            yield number, numbers, (6, 15, 8, 60, 15, 6)[:len(numbers)]
        yield 5, (1, 1, 4), (6, 15, 60)

    def test_out_of_range(self):
        for number, numbers, tops in self.calls():
            self.assertGreaterEqual(ask_last(TRAIL, [number, *numbers])[0], -5)
            for place, top in enumerate(tops):
                for wrong in FAR_NUMBERS + (top + 1,):
                    call = [number, *numbers[:place], wrong, *numbers[place + 1:]]
                    self.assertEqual(ask_last(TRAIL, call), [-1], call)
                    self.assertEqual(ask(call), [[-1]])

    def test_no_land(self):
        for number, numbers, tops in self.calls():
            self.assertEqual(ask([number, *numbers]), [[-2]])
            self.assertEqual(ask([number, *tops]), [[-2]])

    def test_not_in_the_land(self):
        for number, numbers, tops in self.calls():
            food = {3: 3, 4: 3, 6: 3, 5: 2}[number]
            for place, wrong in ((0, 3), (0, 6), (1, 2), (1, 3), (1, 15), (food, 13), (food, 60)):
                call = [number, *numbers[:place], wrong, *numbers[place + 1:]]
                self.assertEqual(ask_last(TRAIL, call), [-3], call)
            full = [number, *numbers[:food], 12, *numbers[food + 1:]]
            self.assertNotEqual(ask_last(TRAIL, full), [-3])

    def test_which_refusal_comes_first(self):
        self.assertEqual(ask_last(TRAIL, resist(0, 2, 0, 12, 0, 2)), [-3])
        self.assertEqual(ask_last(TRAIL, resist(0, 1, 0, 13, 0, 2)), [-3])
        self.assertEqual(ask_last(TRAIL, resist(6, 15, 0, 60, 16, 0)), [-1])
        self.assertEqual(ask_last(TRAIL, resist(6, 15, 0, 60, 0, 7)), [-1])
        self.assertEqual(ask_last(TRAIL, stand(2, 2, 0)), [-3])
        self.assertEqual(ask_last(TRAIL, choices(0, 0, 0, 13)), [-3])

    def test_a_refusal_changes_nothing(self):
        refused = [choices(3, 0, 0, 0), give(0, 2, 0, 0), stand(2, 0, 0), resist(0, 0, 0, 0, 0, 0), need(0, 0, 9)]
        self.assertEqual(ask(TRAIL, *refused, [1], need(2, 0, 2))[-2:], ask(TRAIL, [1], need(2, 0, 2))[1:])


if __name__ == "__main__":
    unittest.main()
