"""check: point 10 of the promises, and the ways in which a plan fails."""

import random
import unittest

from tests.helpers import (FAR_NUMBERS, JOURNEY, LOG, PLANFORM, ask, ask_last, check, land, need, plan, rule, some_land,
                           some_plan)

LAND = land("place home\nplace hut\nplace cape\nleg hut home 2 4\nleg cape hut 3 5\nleg cape home 9 9\n"
            "cache tin hut 3\ncache box cape 5\nlimit 20\n")
PLAN = plan("at cape have box : take box go hut\nat cape : go hut\n"
            "at hut have tin : take tin go home\nat hut : go home\n")
CHAIN = land("place home\nplace a\nplace b\nplace c\nleg c b 1 3\nleg b a 1 3\nleg a home 1 3\n")


def chain_check(text, b=2, f=20):
    return ask_last(CHAIN, plan(text), check(3, 0, b, f))


class PlansThatComeHome(unittest.TestCase):
    def test_how_many_parties(self):
        # Cape; the hut with 2, 1, 0 storm days; home with 2, 1, 0 storm days, each party just once.
        self.assertEqual(ask_last(LAND, PLAN, check(2, 3, 2, 0)), [1, 7])
        self.assertEqual(ask_last(LAND, PLAN, check(2, 3, 1, 0)), [1, 5])
        self.assertEqual(ask_last(LAND, PLAN, check(2, 3, 0, 0)), [1, 3])
        self.assertEqual(ask_last(LAND, PLAN, check(1, 0, 2, 4)), [1, 4])
        self.assertEqual(ask_last(LAND, PLAN, check(1, 0, 8, 4)), [1, 4])

    def test_parties_that_come_by_several_weathers_count_once(self):
        self.assertEqual(chain_check("at c : go b\nat b : go a\nat a : go home", 2, 5), [1, 10])
        self.assertEqual(chain_check("at c : go b\nat b : go a\nat a : go home", 1, 4), [1, 7])

    def test_parties_with_another_set_are_others(self):
        told = land("place home\nplace hut\nplace camp\nplace far\nleg far hut 1 2\nleg hut camp 1 2\n"
                    "leg camp home 1 1\ncache tin hut 1\ncache oil hut 1\n")
        text = ("at far : go hut\nat hut storms >= 1 : take tin go camp\nat hut : take oil go camp\n"
                "at camp : go home")
        # Far; the hut with 1 and 0 storm days; the camp with oil and 1 storm day, oil and 0, tin and 0 (food 7, both);
        # home, as the camp.
        self.assertEqual(ask_last(told, plan(text), check(3, 3, 1, 9)), [1, 9])

    def test_at_home_nothing_is_done(self):
        for text in ("", "at home : take tin go cape", "at home : go home", "at hut : go home"):
            self.assertEqual(ask_last(LAND, plan(text), check(0, 3, 8, 0)), [1, 1])
        self.assertEqual(ask_last(LAND, check(0, 0, 0, 20)), [1, 1])

    def test_home_on_the_way_ends_the_going(self):
        told = land("place home\nplace hut\nway hut home 1 1\n")
        self.assertEqual(ask_last(told, plan("at hut : go home\nat home : go hut"), check(1, 0, 0, 9)), [1, 2])

    def test_what_can_not_be_carried_is_lost(self):
        told = "place home\nplace hut\nplace cape\nleg cape hut 3 3\nleg hut home 3 3\ncache box cape 60\nlimit %d"
        text = plan("at cape : take box go hut\nat hut : go home")
        self.assertEqual(ask_last(land(told % 6), text, check(2, 1, 0, 6)), [1, 3])
        self.assertEqual(ask_last(land(told % 5), text, check(2, 1, 0, 5)), [0, 1, 2, 0, 0])

    def test_storm_days_of_the_land_do_not_count(self):
        told = land("place home\nplace hut\nleg hut home 2 4\nstorms 2\n")
        self.assertEqual(ask_last(told, plan("at hut : go home"), check(1, 0, 0, 2)), [1, 2])
        self.assertEqual(ask_last(told, plan("at hut : go home"), check(1, 0, 3, 2)), [0, 1, 1, 1])


class PlansThatFail(unittest.TestCase):
    def test_lost_by_the_least_extra_days(self):
        for food, extra in ((0, 0), (1, 0), (2, 1), (3, 2)):
            self.assertEqual(ask_last(LAND, PLAN, check(1, 0, 2, food)), [0, 1, 1, extra])
        self.assertEqual(ask_last(LAND, PLAN, check(1, 0, 1, 3)), [1, 3])
        self.assertEqual(ask_last(LAND, PLAN, check(2, 1, 2, 4)), [0, 1, 1, 2])

    def test_lost_behind_other_legs(self):
        self.assertEqual(ask_last(LAND, PLAN, check(2, 2, 2, 1)), [0, 1, 2, 0, 2])
        self.assertEqual(ask_last(LAND, PLAN, check(2, 2, 2, 0)), [0, 1, 2, 0, 1])
        self.assertEqual(chain_check("at c : go b\nat b : go a\nat a : go home", 2, 4), [0, 1, 3, 0, 0, 2])

    def test_no_rule_fits(self):
        self.assertEqual(ask_last(LAND, plan("at hut : go home"), check(2, 3, 2, 9)), [0, 2, 0])
        self.assertEqual(ask_last(LAND, plan("at cape : go hut"), check(2, 3, 2, 9)), [0, 2, 1, 0])
        text = "at cape : go hut\nat hut storms >= 1 : go home"
        self.assertEqual(ask_last(LAND, plan(text), check(2, 3, 2, 19)), [0, 2, 1, 2])

    def test_a_plan_that_was_not_told_is_empty(self):
        self.assertEqual(ask_last(LAND, check(1, 3, 2, 20)), [0, 2, 0])
        self.assertEqual(ask_last(LAND, plan(""), check(1, 3, 2, 20)), [0, 2, 0])
        self.assertEqual(ask_last(LAND, PLAN, LAND, check(1, 3, 2, 20)), [0, 2, 0])
        self.assertEqual(ask_last(LAND, PLAN, plan("x"), check(1, 3, 2, 20)), [1, 4])

    def test_the_rule_can_not_be_done(self):
        for text in ("at hut : take tin go home", "at hut : take box go home", "at hut : take tin box go home",
                     "at hut : go cape", "at hut : go hut", "at hut : take tin go cape"):
            self.assertEqual(ask_last(LAND, plan(text), check(1, 2, 2, 20)), [0, 3, 0], text)
        self.assertEqual(ask_last(LAND, plan("at hut : go cape\nat hut : go home"), check(1, 2, 2, 20)), [0, 3, 0])
        text = "at cape : take box go hut\nat hut storms < 2 : take box go home\nat hut : go home"
        self.assertEqual(ask_last(LAND, plan(text), check(2, 3, 2, 20)), [0, 3, 1, 1])

    def test_ways_told_ahead_of_being_lost(self):
        self.assertEqual(ask_last(LAND, plan("at hut : take box go home"), check(1, 3, 2, 0)), [0, 3, 0])
        self.assertEqual(ask_last(LAND, plan(""), check(1, 3, 2, 0)), [0, 2, 0])

    def test_first_come_to(self):
        front = "at c : go b\nat b : go a\n"
        self.assertEqual(chain_check(front + "at a storms >= 2 : go home\nat a storms < 1 : go home"), [0, 2, 2, 0, 1])
        self.assertEqual(chain_check(front + "at a storms >= 1 : go home"), [0, 2, 2, 0, 2])
        self.assertEqual(chain_check(front + "at a storms >= 1 : go home\nat a : go c"), [0, 3, 2, 0, 2])
        # The food 18 behind two legs is that of the weather 0, 0 alone; 17 comes by 0, 1 and by 1, 0.
        self.assertEqual(chain_check(front + "at a food >= 18 : go home"), [0, 2, 2, 0, 1])

    def test_the_order_of_the_row(self):
        # The hut with no storm days left is looked at ahead of all that is two legs away.
        text = "at c : go b\nat b storms >= 1 : go a\nat a storms < 2 : go home"
        self.assertEqual(chain_check(text), [0, 2, 1, 2])
        self.assertEqual(chain_check("at c : go b\nat b storms >= 2 : go a\nat a : go home"), [0, 2, 1, 1])
        # Of those two legs away, those behind fewer extra days on the first leg come first.
        text = "at c : go b\nat b : go a\nat a storms < 2 storms >= 1 : go home"
        self.assertEqual(chain_check(text), [0, 2, 2, 0, 0])

    def test_the_shorter_weather_comes_first(self):
        told = land("place home\nplace a\nplace b\nplace c\nplace d\nleg c b 1 2\nleg b a 2 2\nleg b d 1 1\n"
                    "leg d a 1 2\nleg a home 1 1")
        # At a, with 1 storm day and 4 rations fewer, by 1, 0 over b and by 0, 0, 1 over b and d.
        text = "at c : go b\nat b storms >= 2 : go d\nat b : go a\nat d : go a\nat a storms >= 2 : go home"
        self.assertEqual(ask_last(told, plan(text), check(3, 0, 2, 20)), [0, 2, 2, 1, 0])

    def test_a_long_way(self):
        told = "place home\nplace hut\nplace cape\nway hut cape 1 1\nlimit 60\n"
        text = "at hut : go cape\nat cape : go hut"
        self.assertEqual(ask_last(land(told), plan(text), check(1, 0, 0, 60)), [0, 1, 61] + [0] * 61)
        told += "cache w hut 60\ncache x hut 60\ncache y hut 60\ncache z hut 60\n"
        takes = "".join("at hut food < 1 have %s : take %s go cape\n" % (name, name) for name in "wxyz")
        self.assertEqual(ask_last(land(told), plan(takes + text), check(1, 15, 0, 60)), [0, 1, 301] + [0] * 301)


class FourHundredParties(unittest.TestCase):
    """From a row of `front` places, one day apart, a party comes to a; then it goes n legs between a and b, each 1 to
    9 days; then home. With 8 storm days that are 1 party for each place of the front, 1 at a, 9 behind each of the n
    legs, and 9 at home."""

    def told(self, front, legs, f, home_most=1):
        names = ["f%d" % number for number in range(front)]
        lines = ["place home", "place a", "place b"] + ["place " + name for name in names]
        lines += ["leg %s %s 1 1" % pair for pair in zip(names, names[1:] + ["a"])]
        lines += ["way a b 1 9", "leg a home 1 %d" % home_most, "leg b home 1 %d" % home_most, "limit 60"]
        rules = ["at %s : go %s" % pair for pair in zip(names, names[1:] + ["a"])]
        end = "b" if legs % 2 else "a"
        # Behind the n legs the food is that many above the storm days left.
        above = f - front - legs - 8
        rules += ["at %s storms >= %d food < %d : go home" % (end, b, b + above + 1) for b in range(8, -1, -1)]
        rules += ["at a : go b", "at b : go a"]
        start = 3 if front else 1
        return [land("\n".join(lines)), plan("\n".join(rules)), check(start, 0, 8, f)]

    def test_how_many(self):
        for front, legs in ((0, 0), (1, 0), (0, 1), (3, 10), (4, 33)):
            self.assertEqual(ask_last(*self.told(front, legs, 59)), [1, front + 1 + 9 * legs + (9 if legs else 1)])

    def test_just_four_hundred(self):
        self.assertEqual(ask_last(*self.told(3, 43, 60)), [1, 400])

    def test_more(self):
        self.assertEqual(ask_last(*self.told(4, 43, 60)), [-6])
        self.assertEqual(ask_last(*self.told(3, 44, 60)), [-6])

    def test_no_food_left_at_the_end_of_four_hundred(self):
        self.assertEqual(ask_last(*self.told(3, 43, 55)), [1, 400])
        self.assertEqual(ask_last(*self.told(3, 43, 54)), [0, 1, 47] + [0] * 45 + [8, 0])

    def test_a_failure_behind_too_many_parties_is_not_come_to(self):
        # The party with no food and no storm days left would fail, but one ahead of it makes the row too long.
        self.assertEqual(ask_last(*self.told(3, 44, 55)), [-6])
        # Here it's the one that would make the row too long.
        self.assertEqual(ask_last(*self.told(4, 43, 55)), [0, 1, 48] + [0] * 46 + [8, 0])

    def test_a_failure_ahead_of_too_many_parties(self):
        # The row is full, and this party would add to it; but with 8 extra days it's lost.
        self.assertEqual(ask_last(*self.told(3, 44, 55, 9)), [0, 1, 48] + [0] * 47 + [8])
        self.assertEqual(ask_last(*self.told(3, 44, 56, 9)), [-6])

    def test_a_refusal_changes_nothing(self):
        calls = self.told(4, 43, 60)
        answer = ask(calls[0], calls[1], PLANFORM, calls[2], PLANFORM, check(1, 0, 0, 3), JOURNEY)
        self.assertEqual(answer[3], [-6])
        self.assertEqual(answer[4], answer[2])
        self.assertEqual(answer[6], [-3])


class AgainstAllWeathers(unittest.TestCase):
    def test_some_lands(self):
        ways = set()
        for seed in range(250):
            slow = some_land(seed)
            slow_plan = some_plan(slow, seed)
            source = random.Random(seed)
            parties = [(source.randrange(slow.places), source.randrange(2 ** len(slow.caches)), source.randint(0, 4),
                        source.randint(0, slow.limit)) for number in range(25)]
            told = ask(land(slow.text()), plan(slow_plan.text()), *[check(*party) for party in parties])[2:]
            expected = [slow_plan.check(party) for party in parties]
            self.assertEqual(told, expected, seed)
            ways.update(tuple(answer[:2 if answer[0] == 0 else 1]) for answer in told)
        self.assertEqual(ways, {(1,), (0, 1), (0, 2), (0, 3)})


class Refusals(unittest.TestCase):
    def test_out_of_range(self):
        for number in FAR_NUMBERS:
            for place in range(4):
                call = check(1, 0, 0, 0)
                call[1 + place] = number
                self.assertEqual(ask_last(LAND, PLAN, call), [-1])
                self.assertEqual(ask(call), [[-1]])
        for call in (check(7, 0, 0, 0), check(0, 16, 0, 0), check(0, 0, 9, 0), check(0, 0, 0, 61)):
            self.assertEqual(ask_last(LAND, PLAN, call), [-1])

    def test_not_in_the_land(self):
        for call in (check(3, 0, 0, 0), check(6, 0, 0, 0), check(1, 4, 0, 0), check(0, 15, 0, 0), check(1, 0, 0, 21),
                     check(0, 0, 0, 60)):
            self.assertEqual(ask_last(LAND, PLAN, call), [-3])
            self.assertEqual(ask_last(LAND, call), [-3])
            self.assertEqual(ask(call), [[-2]])
        self.assertEqual(ask_last(LAND, PLAN, check(1, 3, 8, 20)), [1, 4])

    def test_check_changes_nothing(self):
        around = [PLANFORM, rule(1, 1, 2, 4), need(2, 3, 2), JOURNEY, LOG]
        answer = ask(LAND, PLAN, *around, check(2, 3, 2, 0), check(1, 0, 2, 0), check(9, 0, 0, 0), *around)
        self.assertEqual(answer[-5:], answer[2:7])


if __name__ == "__main__":
    unittest.main()
