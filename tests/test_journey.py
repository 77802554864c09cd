"""begin, move, weather, journey, log and bear: points 13 to 18 of the promises."""

import random
import unittest

from tests.helpers import (FAR_NUMBERS, FORM, JOURNEY, LOG, PLANFORM, SlowJourney, ask, ask_last, bear, begin, check,
                           choices, follow, give, land, move, need, plan, resist, route, rule, some_land, some_plan,
                           stand, weather, with_row)

# The hut's need is 4 with 2 storm days (1 with the tin); the cape's is 7 (0 with tin and box).
LAND = land("place home\nplace hut\nplace cape\nleg hut home 2 4\nleg cape hut 3 5\nleg cape home 9 9\n"
            "leg home cape 1 1\ncache tin hut 3\ncache box cape 5\nlimit 20\n")
AT_CAPE = [LAND, begin(2, 3, 2, 4, 0)]
ON_LEG = AT_CAPE + [move(2, 1)]
AT_HUT = ON_LEG + [weather(1)]
ON_LAST_LEG = AT_HUT + [move(1, 0)]
AT_HOME = ON_LAST_LEG + [weather(0)]
LOST = [LAND, begin(1, 3, 2, 3, 0), move(0, 0), weather(2)]
AT_ONCE_HOME = [LAND, begin(0, 3, 2, 4, 0)]
STATES = (AT_CAPE, ON_LEG, AT_HUT, ON_LAST_LEG, AT_HOME, LOST, AT_ONCE_HOME)


class Begin(unittest.TestCase):
    def test_the_party_told(self):
        self.assertEqual(ask(LAND, begin(2, 3, 2, 4, 0), JOURNEY, LOG)[1:], [[0], [0, 0, 2, 3, 2, 4, 1, 0], [0]])
        self.assertEqual(ask(LAND, begin(1, 0, 2, 20, 1), JOURNEY, LOG)[1:], [[0], [0, 1, 1, 0, 2, 20, 1, 4], [0]])
        self.assertEqual(ask(LAND, begin(0, 2, 8, 0, 1), JOURNEY, LOG)[1:], [[0], [2, 1, 0, 2, 8, 0, 1, 0], [0]])

    def test_strict_only_if_safe(self):
        for food in range(21):
            self.assertEqual(ask_last(LAND, begin(1, 0, 2, food, 1)), [0] if food >= 4 else [-4])
            self.assertEqual(ask_last(LAND, begin(1, 0, 2, food, 0)), [0])

    def test_no_food_is_enough(self):
        told = land("place home\nplace hut\nplace pit\nleg hut home 9 9\nlimit 8")
        for place in (1, 2):
            self.assertEqual(ask(told, begin(place, 0, 0, 8, 1), JOURNEY)[1:], [[-4], [-3]])
            self.assertEqual(ask(told, begin(place, 0, 0, 8, 0), JOURNEY)[1:], [[0], [0, 0, place, 0, 0, 8, 0]])

    def test_over_a_journey_that_was(self):
        for calls in STATES:
            answer = ask(*calls, begin(1, 1, 8, 9, 1), JOURNEY, LOG, move(1, 0))
            self.assertEqual(answer[-4:], [[0], [0, 1, 1, 1, 8, 9, 1, 1], [0], [0, 12, 2]])

    def test_refused_leaves_the_journey_that_was(self):
        for calls in STATES:
            before = ask(*calls, JOURNEY, LOG)[-2:]
            for call, refusal in ((begin(1, 0, 2, 3, 1), -4), (begin(3, 0, 0, 0, 0), -3), (begin(1, 4, 0, 0, 0), -3),
                                  (begin(1, 0, 0, 21, 0), -3), (begin(7, 0, 0, 0, 0), -1), (begin(1, 0, 0, 9, 2), -1)):
                self.assertEqual(ask(*calls, call, JOURNEY, LOG)[-3:], [[refusal]] + before)


class Move(unittest.TestCase):
    def test_food_and_the_greatest_extra_days(self):
        self.assertEqual(ask_last(*AT_CAPE, move(0, 1)), [0, 4, 2])
        self.assertEqual(ask_last(*AT_CAPE, move(2, 1)), [0, 9, 2])
        self.assertEqual(ask_last(*AT_CAPE, move(2, 0)), [0, 9, 0])
        self.assertEqual(ask_last(LAND, begin(2, 3, 1, 4, 0), move(2, 1)), [0, 9, 1])
        self.assertEqual(ask_last(LAND, begin(2, 3, 8, 4, 0), move(2, 1)), [0, 9, 2])

    def test_what_can_not_be_carried_is_lost(self):
        for food, behind in ((14, 19), (15, 20), (16, 20), (20, 20)):
            self.assertEqual(ask_last(LAND, begin(2, 3, 1, food, 0), move(2, 1)), [0, behind, 1])

    def test_on_a_leg(self):
        self.assertEqual(ask(*AT_CAPE, move(2, 1), JOURNEY, LOG)[-2:], [[1, 0, 2, 1, 2, 9], [0]])
        self.assertEqual(ask(*AT_CAPE, move(0, 1), JOURNEY, LOG)[-2:], [[1, 0, 2, 3, 2, 4], [0]])

    def test_not_strict_may_go_to_its_loss(self):
        self.assertEqual(ask_last(LAND, begin(1, 0, 2, 0, 0), move(0, 0)), [0, 0, 2])

    def test_strict_goes_by_safe_choices_alone(self):
        start = [LAND, begin(2, 3, 2, 4, 1)]
        # Without the box the leg may eat 5, and there are 4.
        self.assertEqual(ask(*start, move(0, 1), JOURNEY, LOG, move(2, 1))[-4:],
                         [[-7], [0, 1, 2, 3, 2, 4, 1, 0], [0], [0, 9, 2]])
        self.assertEqual(ask_last(*start, move(2, 0)), [0, 9, 0])
        self.assertEqual(ask_last(LAND, begin(2, 3, 2, 3, 1), move(2, 0)), [-7])

    def test_strict_and_safe_by_what_comes_behind(self):
        start = [LAND, begin(2, 3, 2, 2, 1)]
        self.assertEqual(ask_last(*start, move(2, 1)), [0, 7, 2])
        # At the hut with the tin gone too 4 would be asked for; that's the need of the next choice.
        start = [LAND, begin(2, 3, 2, 2, 1), move(2, 1), weather(0)]
        self.assertEqual(ask(*start, JOURNEY, move(0, 0), move(1, 0))[-3:],
                         [[0, 1, 1, 1, 2, 4, 1, 1], [0, 4, 2]] + [[-4]])
        start = [LAND, begin(2, 3, 2, 1, 1), move(2, 1), weather(0)]
        self.assertEqual(ask(*start, JOURNEY, move(0, 0), move(1, 0))[-3:],
                         [[0, 1, 1, 1, 2, 3, 1, 1], [-7], [0, 6, 2]])

    def test_no_journey(self):
        self.assertEqual(ask(LAND, move(0, 0), move(15, 6))[1:], [[-3], [-3]])
        self.assertEqual(ask(move(0, 0)), [[-2]])

    def test_on_a_leg_lost_or_at_home(self):
        for calls in (ON_LEG, ON_LAST_LEG, AT_HOME, LOST, AT_ONCE_HOME):
            for call in (move(0, 0), move(0, 1), move(0, 2), move(15, 6)):
                self.assertEqual(ask_last(*calls, call), [-4])

    def test_taking_that_may_not_be_done(self):
        for taking in (1, 3, 4, 6, 8, 10, 15):
            for end in (0, 1, 2, 3, 6):
                self.assertEqual(ask_last(*AT_CAPE, move(taking, end)), [-5])
        self.assertEqual(ask_last(LAND, begin(2, 1, 0, 9, 0), move(2, 1)), [-5])
        self.assertEqual(ask_last(*AT_HUT, move(2, 0)), [-5])
        self.assertEqual(ask_last(LAND, begin(2, 3, 2, 3, 1), move(1, 0)), [-5])

    def test_a_taken_cache_is_taken(self):
        told = land("place home\nplace hut\nplace cape\nway hut cape 1 1\nleg hut home 1 1\ncache tin hut 3")
        answer = ask(told, begin(1, 1, 0, 5, 0), move(1, 2), weather(0), move(0, 1), weather(0), move(1, 0), move(0, 0))
        self.assertEqual(answer[-2:], [[-5], [0, 6, 0]])

    def test_no_leg(self):
        for end in (1, 2, 3, 6):
            self.assertEqual(ask_last(*AT_HUT, move(1, end)), [-6])
            self.assertEqual(ask_last(LAND, begin(1, 0, 0, 2, 1), move(0, end)), [-6])
        self.assertEqual(ask_last(*AT_CAPE, move(0, 2)), [-6])

    def test_out_of_range(self):
        for number in FAR_NUMBERS:
            for calls in ([], [LAND]) + STATES:
                self.assertEqual(ask_last(*calls, move(number, 0)), [-1])
                self.assertEqual(ask_last(*calls, move(0, number)), [-1])
        self.assertEqual(ask_last(*AT_CAPE, move(16, 0)), [-1])
        self.assertEqual(ask_last(*AT_CAPE, move(0, 7)), [-1])


class Weather(unittest.TestCase):
    def test_the_leg_is_gone(self):
        self.assertEqual(ask_last(*ON_LEG, weather(0)), [0, 1, 1, 2, 6])
        self.assertEqual(ask_last(*ON_LEG, weather(1)), [0, 1, 1, 1, 5])
        self.assertEqual(ask_last(*ON_LEG, weather(2)), [0, 1, 1, 0, 4])
        self.assertEqual(ask_last(*ON_LAST_LEG, weather(1)), [0, 0, 0, 0, 5])
        self.assertEqual(ask_last(*AT_CAPE, move(0, 1), weather(1)), [0, 1, 3, 1, 0])

    def test_more_than_may_be_chosen(self):
        for k in range(3, 13):
            self.assertEqual(ask_last(*ON_LEG, weather(k)), [-5])
        self.assertEqual(ask_last(*ON_LAST_LEG, weather(2)), [-5])
        self.assertEqual(ask_last(LAND, begin(2, 3, 8, 4, 0), move(2, 1), weather(3)), [-5])
        self.assertEqual(ask_last(LAND, begin(2, 3, 8, 4, 0), move(2, 0), weather(1)), [-5])
        self.assertEqual(ask_last(LAND, begin(1, 0, 0, 0, 0), move(0, 0), weather(1)), [-5])

    def test_lost(self):
        # 5 days are asked for and 4 rations there: food 0, 2 storm days fewer, at the leg's end.
        self.assertEqual(ask_last(*AT_CAPE, move(0, 1), weather(2)), [1, 1, 3, 0, 0])
        self.assertEqual(ask_last(LAND, begin(2, 3, 8, 1, 0), move(2, 0), weather(0)), [1, 0, 1, 8, 0])
        self.assertEqual(ask_last(LAND, begin(1, 0, 7, 1, 0), move(0, 0), weather(1)), [1, 0, 0, 6, 0])
        self.assertEqual(ask_last(LAND, begin(1, 0, 7, 3, 0), move(0, 0), weather(1)), [0, 0, 0, 6, 0])

    def test_strict_is_never_lost(self):
        for k in range(3):
            self.assertEqual(ask_last(LAND, begin(1, 0, 2, 4, 1), move(0, 0), weather(k)), [0, 0, 0, 2 - k, 2 - k])

    def test_no_journey(self):
        self.assertEqual(ask(LAND, weather(0), weather(12))[1:], [[-3], [-3]])
        self.assertEqual(ask(weather(0)), [[-2]])

    def test_not_on_a_leg(self):
        for calls in (AT_CAPE, AT_HUT, AT_HOME, LOST, AT_ONCE_HOME):
            for k in (0, 1, 12):
                self.assertEqual(ask_last(*calls, weather(k)), [-4])

    def test_out_of_range(self):
        for number in FAR_NUMBERS + (13,):
            for calls in ([], [LAND]) + STATES:
                self.assertEqual(ask_last(*calls, weather(number)), [-1])

    def test_a_leg_of_most_extra_days(self):
        told = land("place home\nplace hut\nleg hut home 1 12\nlimit 60")
        for k in range(9):
            self.assertEqual(ask(told, begin(1, 0, 8, 20, 1), move(0, 0), weather(k))[2:],
                             [[0, 20, 8], [0, 0, 0, 8 - k, 19 - k]])
        self.assertEqual(ask_last(told, begin(1, 0, 8, 20, 1), move(0, 0), weather(9)), [-5])


class JourneyAndLog(unittest.TestCase):
    def test_all_states(self):
        expected = [[[0, 0, 2, 3, 2, 4, 1, 0], [0]],
                    [[1, 0, 2, 1, 2, 9], [0]],
                    [[0, 0, 1, 1, 1, 5, 1, 0], [1, 2, 2, 1, 1]],
                    [[1, 0, 1, 0, 1, 8], [1, 2, 2, 1, 1]],
                    [[2, 0, 0, 0, 1, 6, 1, 0], [2, 2, 2, 1, 1, 1, 1, 0, 0]],
                    [[3, 0, 0, 3, 0, 0], [1, 1, 0, 0, 2]],
                    [[2, 0, 0, 3, 2, 4, 1, 0], [0]]]
        for calls, told in zip(STATES, expected):
            self.assertEqual(ask(*calls, JOURNEY, LOG, JOURNEY, LOG)[-4:], told + told)

    def test_lost_ahead_of_home(self):
        told = [LAND, begin(2, 0, 2, 4, 0), move(0, 1), weather(2)]
        self.assertEqual(ask(*told, JOURNEY, LOG)[-2:], [[3, 0, 1, 0, 0, 0], [1, 2, 0, 1, 2]])

    def test_as_need(self):
        told = land("place home\nplace hut\nplace pit\nleg hut home 2 4\nleg hut pit 1 1\nlimit 3")
        self.assertEqual(ask_last(told, begin(1, 0, 1, 2, 0), JOURNEY), [0, 0, 1, 0, 1, 2, 1, 3])
        self.assertEqual(ask_last(told, begin(1, 0, 2, 2, 0), JOURNEY), [0, 0, 1, 0, 2, 2, 0])
        self.assertEqual(ask_last(told, begin(1, 0, 1, 2, 0), move(0, 2), weather(0), JOURNEY), [0, 0, 2, 0, 1, 1, 0])

    def test_no_journey(self):
        self.assertEqual(ask(JOURNEY, LOG), [[-2], [-2]])
        self.assertEqual(ask(LAND, JOURNEY, LOG)[1:], [[-3], [-3]])

    def test_many_legs(self):
        told = land("place home\nplace hut\nplace cape\nway hut cape 1 2\nlimit 60")
        calls = [told, begin(1, 0, 8, 60, 0)]
        log = []
        for leg in range(28):
            calls += [move(0, 2 - leg % 2), weather(leg % 2 if leg < 16 else 0)]
            log += [1 + leg % 2, 0, 2 - leg % 2, leg % 2 if leg < 16 else 0]
        answer = ask(*calls, LOG, JOURNEY)
        self.assertEqual(answer[-2:], [[28] + log, [0, 0, 1, 0, 0, 24, 0]])


class Bear(unittest.TestCase):
    def test_safe(self):
        self.assertEqual(ask_last(*AT_CAPE, bear(2, 1)), [1])
        self.assertEqual(ask_last(*AT_CAPE, bear(2, 0)), [1])
        self.assertEqual(ask_last(*AT_HUT, bear(1, 0)), [1])
        self.assertEqual(ask_last(LAND, begin(2, 3, 2, 4, 1), bear(2, 1)), [1])

    def test_not_safe(self):
        self.assertEqual(ask_last(*AT_CAPE, bear(0, 1)), [0, 2])
        self.assertEqual(ask_last(*AT_CAPE, bear(0, 0)), [0, 0])
        self.assertEqual(ask_last(LAND, begin(2, 3, 2, 4, 1), bear(0, 1)), [0, 2])
        self.assertEqual(ask_last(LAND, begin(1, 0, 2, 2, 0), bear(0, 0)), [0, 1])
        # Not lost, but at the hut with 2 storm days and no tin 4 rations are asked for.
        self.assertEqual(ask_last(LAND, begin(2, 0, 2, 6, 0), bear(0, 1)), [0, 0])

    def test_refusals_as_in_move(self):
        self.assertEqual(ask(bear(0, 0)), [[-2]])
        self.assertEqual(ask(LAND, bear(0, 0), bear(15, 6))[1:], [[-3], [-3]])
        for calls in (ON_LEG, ON_LAST_LEG, AT_HOME, LOST, AT_ONCE_HOME):
            for call in (bear(0, 0), bear(0, 1), bear(0, 2), bear(15, 6)):
                self.assertEqual(ask_last(*calls, call), [-4])
        for taking in (1, 3, 4, 6, 8, 10, 15):
            for end in (0, 1, 2, 3, 6):
                self.assertEqual(ask_last(*AT_CAPE, bear(taking, end)), [-5])
        self.assertEqual(ask_last(*AT_HUT, bear(2, 0)), [-5])
        for end in (1, 2, 3, 6):
            self.assertEqual(ask_last(*AT_HUT, bear(1, end)), [-6])
            self.assertEqual(ask_last(LAND, begin(1, 0, 0, 2, 1), bear(0, end)), [-6])

    def test_out_of_range(self):
        for number in FAR_NUMBERS:
            for calls in ([], [LAND]) + STATES:
                self.assertEqual(ask_last(*calls, bear(number, 0)), [-1])
                self.assertEqual(ask_last(*calls, bear(0, number)), [-1])
        self.assertEqual(ask_last(*AT_CAPE, bear(16, 0)), [-1])
        self.assertEqual(ask_last(*AT_CAPE, bear(0, 7)), [-1])


class WhatStays(unittest.TestCase):
    def test_refused_calls_and_mere_questions_leave_the_journey(self):
        questions = [FORM, need(2, 3, 2), choices(2, 3, 2, 4), give(2, 3, 2, 9), stand(2, 3, 4),
                     resist(2, 3, 2, 4, 0, 1), PLANFORM, rule(1, 1, 1, 1), check(2, 3, 2, 4),
                     follow(2, 3, 2, 4, [0, 0]), route(2, 3, 2, [2, 1]), JOURNEY, LOG, bear(2, 1),
                     bear(0, 1), bear(1, 1), bear(0, 6), move(16, 0), move(15, 0), move(0, 6), weather(13),
                     weather(12)]
        for calls in STATES:
            before = ask(*calls, JOURNEY, LOG)[-2:]
            self.assertEqual(ask(*calls, *questions, JOURNEY, LOG)[-2:], before)

    def test_a_plan_leaves_the_journey(self):
        for calls in STATES:
            before = ask(*calls, JOURNEY, LOG)[-2:]
            for text, answer in (("", [0, 0]), ("at hut : go home", [0, 1]), ("x", [-1001])):
                self.assertEqual(ask(*calls, plan(text), JOURNEY, LOG)[-3:], [answer] + before)
        self.assertEqual(ask_last(*ON_LEG, plan("at hut : go home"), weather(1)), [0, 1, 1, 1, 5])

    def test_a_journey_leaves_the_plan(self):
        told = plan("at hut : go home")
        before = ask(LAND, told, PLANFORM, rule(1, 0, 0, 4))[-2:]
        self.assertEqual(ask(LAND, told, *AT_HOME[1:], PLANFORM, rule(1, 0, 0, 4))[-2:], before)
        self.assertEqual(ask(*AT_HOME, PLANFORM, rule(1, 0, 0, 4))[-2:], [[-3], [-4]])

    def test_a_journey_leaves_the_land(self):
        questions = [FORM, need(2, 3, 2), choices(2, 3, 2, 4)]
        for calls in STATES:
            self.assertEqual(ask(*calls, *questions)[-3:], ask(LAND, *questions)[1:])

    def test_a_new_land_ends_the_journey(self):
        for calls in STATES:
            for told in (LAND, land("place home")):
                answer = ask(*calls, told, JOURNEY, LOG, move(0, 0), weather(0), bear(0, 0))
                self.assertEqual(answer[-5:], [[-3]] * 5)

    def test_a_refused_land_leaves_the_journey(self):
        for calls in STATES:
            before = ask(*calls, JOURNEY, LOG)[-2:]
            for told, refusal in ((land("x"), -1001), (land(""), -4), (with_row(0, [256]), -1),
                                  (with_row(0, [32] * 2001), -1), (land("place home\nplace home"), -1002)):
                self.assertEqual(ask(*calls, told, JOURNEY, LOG)[-3:], [[refusal]] + before)
        self.assertEqual(ask_last(*ON_LEG, land("x"), weather(1)), [0, 1, 1, 1, 5])


class BeginRefusals(unittest.TestCase):
    def test_out_of_range(self):
        for number in FAR_NUMBERS:
            for place in range(5):
                call = begin(1, 0, 0, 0, 0)
                call[1 + place] = number
                for calls in ([], [LAND], AT_CAPE, ON_LEG):
                    self.assertEqual(ask_last(*calls, call), [-1])
        for call in (begin(7, 0, 0, 0, 0), begin(0, 16, 0, 0, 0), begin(0, 0, 9, 0, 0), begin(0, 0, 0, 61, 0),
                     begin(0, 0, 0, 0, 2)):
            self.assertEqual(ask(LAND, call, JOURNEY)[1:], [[-1], [-3]])

    def test_not_in_the_land(self):
        for party in ((3, 0, 0, 0), (6, 0, 0, 0), (1, 4, 0, 0), (0, 15, 0, 0), (1, 0, 0, 21), (0, 0, 0, 60)):
            for strict in (0, 1):
                self.assertEqual(ask(LAND, begin(*party, strict), JOURNEY)[1:], [[-3], [-3]])
                self.assertEqual(ask(begin(*party, strict)), [[-2]])
            self.assertEqual(ask_last(LAND, begin(*party, 2)), [-1])

    def test_no_land(self):
        self.assertEqual(ask(begin(1, 0, 0, 4, 0), begin(0, 0, 0, 0, 1)), [[-2], [-2]])


class AgainstASlowJourney(unittest.TestCase):
    def test_some_journeys(self):
        states = set()
        for seed in range(300):
            slow = some_land(seed)
            source = random.Random(seed)
            slow_journey = SlowJourney(slow)
            calls, expected = [land(slow.text()), plan(some_plan(slow, seed).text())], []
            for number in range(58):
                call, answer = slow_journey.some_call(source)
                calls.append(call)
                expected.append(answer)
                states.add((call[0], answer[0]))
            self.assertEqual(ask(*calls)[2:], expected, seed)
        for call, first in [(13, -4), (13, 0), (14, -3), (14, -4), (14, -5), (14, -6), (14, -7), (14, 0), (15, -4),
                            (15, -5), (15, 0), (15, 1), (16, -3), (16, 0), (16, 1), (16, 2), (16, 3), (17, -3), (17, 0),
                            (17, 1), (17, 2), (18, -3), (18, -4), (18, -5), (18, -6), (18, 0), (18, 1)]:
            self.assertIn((call, first), states)


if __name__ == "__main__":
    unittest.main()
