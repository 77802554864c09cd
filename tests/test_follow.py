"""follow: point 11 of the promises."""

import random
import unittest

from tests.helpers import (FAR_NUMBERS, JOURNEY, LOG, PLANFORM, ask, ask_last, check, follow, land, need, plan,
                           some_land, some_plan)

LAND = land("place home\nplace hut\nplace cape\nleg hut home 2 4\nleg cape hut 3 5\nleg cape home 9 9\n"
            "cache tin hut 3\ncache box cape 5\nlimit 20\n")
PLAN = plan("at cape have box : take box go hut\nat cape : go hut\n"
            "at hut have tin : take tin go home\nat hut : go home\n")
SHUTTLE = land("place home\nplace hut\nplace cape\nway hut cape 1 1\nlimit 60\n")
SHUTTLE_PLAN = plan("at hut : go cape\nat cape : go hut")


def followed(*told):
    return ask_last(LAND, PLAN, follow(*told))


class Following(unittest.TestCase):
    def test_to_home(self):
        self.assertEqual(followed(2, 3, 2, 0, [0, 0]), [0, 2, 1, 2, 0, 3])
        self.assertEqual(followed(2, 3, 2, 0, [1, 1]), [0, 2, 1, 1, 0, 1])
        self.assertEqual(followed(2, 3, 2, 0, [2, 0]), [0, 2, 1, 0, 0, 1])
        self.assertEqual(followed(2, 0, 2, 20, [0, 2]), [0, 2, 1, 17, 0, 13])
        self.assertEqual(followed(1, 1, 2, 20, [1]), [0, 1, 0, 17])

    def test_at_home_the_rest_of_the_list_is_not_looked_at(self):
        self.assertEqual(followed(1, 0, 2, 9, [0, 12, 12]), [0, 1, 0, 7])
        self.assertEqual(followed(1, 0, 2, 9, [2, 0]), [0, 1, 0, 5])

    def test_at_home_at_once(self):
        for extras in ([], [0], [12, 12], [0] * 40):
            self.assertEqual(followed(0, 3, 2, 9, extras), [0, 0])
            self.assertEqual(ask_last(LAND, follow(0, 3, 2, 9, extras)), [0, 0])
            self.assertEqual(ask_last(LAND, plan("at home : go home"), follow(0, 3, 2, 9, extras)), [0, 0])

    def test_the_list_is_used_up(self):
        self.assertEqual(followed(2, 3, 2, 0, []), [4, 0])
        self.assertEqual(followed(2, 3, 2, 0, [1]), [4, 1, 1, 1])
        self.assertEqual(followed(1, 0, 2, 0, []), [4, 0])

    def test_used_up_is_looked_at_ahead_of_the_plan(self):
        self.assertEqual(ask_last(LAND, follow(1, 0, 0, 9, [])), [4, 0])
        self.assertEqual(ask_last(LAND, plan("at cape : go hut"), follow(2, 0, 0, 9, [0])), [4, 1, 1, 6])
        self.assertEqual(ask_last(LAND, plan("at hut : go cape"), follow(1, 0, 0, 9, [])), [4, 0])

    def test_no_rule_fits(self):
        self.assertEqual(ask_last(LAND, follow(1, 0, 0, 9, [0])), [2, 0])
        self.assertEqual(ask_last(LAND, plan(""), follow(1, 0, 0, 9, [12])), [2, 0])
        self.assertEqual(ask_last(LAND, plan("at cape : go hut"), follow(2, 0, 1, 9, [1, 5])), [2, 1, 1, 5])
        text = "at cape : go hut\nat hut food >= 6 : go home"
        self.assertEqual(ask_last(LAND, plan(text), follow(2, 0, 1, 9, [1, 0])), [2, 1, 1, 5])
        self.assertEqual(ask_last(LAND, plan(text), follow(2, 0, 1, 9, [0, 0])), [0, 2, 1, 6, 0, 4])

    def test_the_rule_can_not_be_done(self):
        for text in ("at hut : take tin go home", "at hut : take box go home", "at hut : go cape", "at hut : go hut"):
            self.assertEqual(ask_last(LAND, plan(text), follow(1, 2, 2, 9, [0])), [3, 0], text)
            self.assertEqual(ask_last(LAND, plan(text), follow(1, 2, 2, 0, [12])), [3, 0], text)
        text = "at cape : take box go hut\nat hut : take box go home"
        self.assertEqual(ask_last(LAND, plan(text), follow(2, 3, 2, 9, [0, 0])), [3, 1, 1, 11])

    def test_more_than_the_weather_may_choose(self):
        self.assertEqual(followed(1, 0, 8, 9, [2]), [0, 1, 0, 5])
        self.assertEqual(followed(1, 0, 8, 9, [3]), [5, 0])
        self.assertEqual(followed(1, 0, 1, 9, [1]), [0, 1, 0, 6])
        self.assertEqual(followed(1, 0, 1, 9, [2]), [5, 0])
        self.assertEqual(followed(1, 0, 0, 9, [1]), [5, 0])
        self.assertEqual(followed(2, 3, 2, 0, [1, 2]), [5, 1, 1, 1])
        self.assertEqual(followed(2, 3, 3, 1, [1, 2]), [0, 2, 1, 2, 0, 1])
        self.assertEqual(followed(2, 3, 2, 0, [12, 0]), [5, 0])

    def test_lost(self):
        self.assertEqual(followed(1, 0, 2, 3, [1]), [0, 1, 0, 0])
        self.assertEqual(followed(1, 0, 2, 3, [2]), [1, 0])
        self.assertEqual(followed(1, 0, 2, 1, [0]), [1, 0])
        self.assertEqual(followed(2, 2, 2, 1, [0, 2, 0]), [1, 1, 1, 3])
        # More than may be is looked at ahead of being lost.
        self.assertEqual(followed(1, 0, 2, 3, [3]), [5, 0])
        self.assertEqual(followed(1, 0, 0, 0, [1]), [5, 0])

    def test_what_can_not_be_carried_is_lost(self):
        self.assertEqual(followed(2, 3, 2, 20, [0, 0]), [0, 2, 1, 17, 0, 18])
        self.assertEqual(followed(1, 1, 0, 18, [0]), [0, 1, 0, 18])

    def test_forty_numbers(self):
        told = [number for leg in range(40) for number in (1 + (leg + 1) % 2, 59 - leg)]
        self.assertEqual(ask_last(SHUTTLE, SHUTTLE_PLAN, follow(1, 0, 0, 60, [0] * 40)), [4, 40] + told)
        self.assertEqual(ask_last(SHUTTLE, SHUTTLE_PLAN, follow(1, 0, 0, 39, [0] * 40))[:2], [1, 39])
        self.assertEqual(ask_last(SHUTTLE, SHUTTLE_PLAN, follow(1, 0, 0, 60, [0] * 39 + [1]))[:2], [5, 39])

    def test_a_weather_that_check_tells_fails_so(self):
        for seed in range(60):
            slow = some_land(seed)
            told = [land(slow.text()), plan(some_plan(slow, seed).text())]
            party = (slow.places - 1, 2 ** len(slow.caches) - 1, 3, slow.limit // 2)
            answer = ask_last(*told, check(*party))
            if answer[0] == 0:
                # A failure ahead of a leg shows when one more leg is asked for.
                extras = answer[3:] if answer[1] == 1 else answer[3:] + [0]
                self.assertEqual(ask_last(*told, follow(*party, extras))[:2], [answer[1], len(extras) - 1])


class AgainstASlowFollowing(unittest.TestCase):
    def test_some_lands(self):
        ways = set()
        for seed in range(250):
            slow = some_land(seed)
            slow_plan = some_plan(slow, seed)
            source = random.Random(seed)
            told = []
            for number in range(25):
                party = (source.randrange(slow.places), source.randrange(2 ** len(slow.caches)), source.randint(0, 4),
                         source.randint(0, slow.limit))
                told.append((party, source.choices((0, 1, 2, 3), (6, 2, 1, 1), k=source.randint(0, 8))))
            answer = ask(land(slow.text()), plan(slow_plan.text()),
                         *[follow(*party, extras) for party, extras in told])[2:]
            self.assertEqual(answer, [slow_plan.follow(party, extras) for party, extras in told], seed)
            ways.update(each[0] for each in answer if each[1] > 1)
        self.assertEqual(ways, {0, 1, 2, 3, 4, 5})


class Refusals(unittest.TestCase):
    def test_out_of_range(self):
        for number in FAR_NUMBERS:
            for place in range(4):
                call = follow(1, 0, 0, 0, [0])
                call[1 + place] = number
                self.assertEqual(ask_last(LAND, PLAN, call), [-1])
                self.assertEqual(ask(call), [[-1]])
        for call in (follow(7, 0, 0, 0, []), follow(0, 16, 0, 0, []), follow(0, 0, 9, 0, []), follow(0, 0, 0, 61, [])):
            self.assertEqual(ask_last(LAND, PLAN, call), [-1])

    def test_wrong_lists(self):
        for number in FAR_NUMBERS + (13,):
            for extras in ([number], [0, 0, number], [number] + [0] * 39, [0] * 39 + [number]):
                self.assertEqual(followed(0, 0, 0, 0, extras), [-1])
                self.assertEqual(ask(follow(0, 0, 0, 0, extras)), [[-1]])
        for length in (41, 42, 2094):
            self.assertEqual(followed(0, 0, 0, 0, [0] * length), [-1])
            self.assertEqual(ask(follow(0, 0, 0, 0, [0] * length)), [[-1]])
        self.assertEqual(followed(0, 0, 0, 0, [12] * 40), [0, 0])

    def test_the_next_call_stands_behind_the_list(self):
        self.assertEqual(ask(LAND, follow(0, 0, 0, 0, [99] * 2094), need(1, 0, 1))[1:], [[-1], [1, 3]])
        self.assertEqual(ask(LAND, follow(0, 0, 0, 0, []), need(1, 0, 1))[1:], [[0, 0], [1, 3]])

    def test_not_in_the_land(self):
        for party in ((3, 0, 0, 0), (6, 0, 0, 0), (1, 4, 0, 0), (0, 15, 0, 0), (1, 0, 0, 21), (0, 0, 0, 60)):
            for extras in ([], [0], [12] * 40):
                self.assertEqual(followed(*party, extras), [-3])
                self.assertEqual(ask_last(LAND, follow(*party, extras)), [-3])
                self.assertEqual(ask(follow(*party, extras)), [[-2]])
            self.assertEqual(followed(*party, [13]), [-1])
            self.assertEqual(followed(*party, [0] * 41), [-1])

    def test_follow_changes_nothing(self):
        around = [PLANFORM, need(2, 3, 2), JOURNEY, LOG]
        answer = ask(LAND, PLAN, *around, follow(2, 3, 2, 0, [0, 0]), follow(1, 0, 0, 0, [0]), follow(9, 0, 0, 0, []),
                     *around)
        self.assertEqual(answer[-4:], answer[2:6])


if __name__ == "__main__":
    unittest.main()
