"""The interface: how calls stand in one list, that it isn't changed, and that nothing is kept."""

import contextlib
import io
import unittest

from stormhome import calls as call_forms
from stormhome import desk
from stormhome.desk import answers
from tests.helpers import (FORM, JOURNEY, LOG, PLANFORM, ask, bear, begin, check, choices, follow, give, land, move,
                           need, plan, resist, route, row_of, rule, some_land, some_plan, stand, weather, with_row)

TEXT = "place home\nplace hut\nleg hut home 2 4\ncache tin hut 3\nlimit 12\nstorms 2\n"
ALL_CALLS = [land(TEXT), FORM, need(1, 0, 2), choices(1, 1, 2, 5), give(1, 1, 2, 9), stand(1, 0, 3),
             resist(1, 0, 2, 3, 0, 0), plan("at hut have tin : take tin go home\n"), PLANFORM, rule(1, 1, 0, 0),
             check(1, 1, 2, 1), follow(1, 1, 2, 1, [1]), route(1, 1, 2, [1, 0]), begin(1, 1, 2, 1, 1), move(1, 0),
             weather(1), JOURNEY, LOG, bear(0, 0)]
NO_LAND_ANSWERS = [[1, -2]] * (len(ALL_CALLS) - 1)


def joined(calls):
    return [number for call in calls for number in call]


class Interface(unittest.TestCase):
    def test_answers_stand_behind_their_lengths(self):
        form = row_of("place home\nplace hut\nleg hut home 2 4\ncache tin hut 3\nlimit 12\nstorms 2\n")
        planform = row_of("at hut have tin : take tin go home\n")
        expected = [6, 0, 2, 1, 1, 12, 2] + [1 + len(form), len(form)] + form + [2, 1, 4] + [5, 2, 0, 0, 1, 0]
        expected += [2, 1, 0] + [1, 1] + [1, 2] + [2, 0, 1] + [1 + len(planform), len(planform)] + planform
        expected += [3, 0, 1, 0] + [2, 1, 4] + [4, 0, 1, 0, 1] + [2, 1, 1] + [1, 0] + [3, 0, 4, 2] + [5, 0, 0, 0, 1, 1]
        expected += [8, 2, 1, 0, 0, 1, 1, 1, 0] + [5, 1, 1, 1, 0, 1] + [1, -4]
        self.assertEqual(answers(joined(ALL_CALLS)), expected)

    def test_a_refusal_is_one_number(self):
        self.assertEqual(answers(land("x") + FORM + need(9, 0, 0)), [1, -1001, 1, -2, 1, -1])
        self.assertEqual(answers(land(TEXT) + PLANFORM)[7:], [1, -3])

    def test_rows_are_gone_past_whatever_they_have(self):
        for row in ([], [0, 7, 9], [-5] * 2098, [2 ** 63 - 1, 4, 1, 1, 1, 1]):
            calls = with_row(0, row) + land(TEXT) + with_row(7, row) + need(1, 0, 0)
            self.assertEqual(answers(calls)[2:9] + answers(calls)[-3:], [6, 0, 2, 1, 1, 12, 2, 2, 1, 2])

    def test_answers_are_whole_numbers_alone(self):
        told = answers(joined(ALL_CALLS))
        self.assertIs(type(told), list)
        self.assertEqual({type(number) for number in told}, {int})

    def test_sixty_calls(self):
        self.assertEqual(ask(land(TEXT), *[need(1, 0, 1)] * 59)[1:], [[1, 3]] * 59)

    def test_an_object_is_new_each_time(self):
        answers(joined(ALL_CALLS))
        self.assertEqual([answers(call) for call in ALL_CALLS[1:]], NO_LAND_ANSWERS)
        self.assertEqual(answers(land(TEXT) + PLANFORM + rule(1, 1, 0, 0))[7:], [1, -3, 1, -4])
        self.assertEqual(answers(land(TEXT) + JOURNEY + LOG + move(0, 0) + weather(0) + bear(0, 0))[7:], [1, -3] * 5)

    def test_what_is_handed_in_is_not_changed(self):
        lists = [joined(ALL_CALLS), land("x"), joined([land(TEXT), with_row(7, [-1] * 2098)])]
        lists.append(land(some_land(3).text()))
        lists.append(joined([land(TEXT), follow(1, 0, 2, 9, [2]), follow(1, 0, 2, 9, [13]), route(1, 1, 2, [1, 0]),
                             route(1, 1, 2, [1]), check(1, 1, 2, 9), begin(1, 1, 2, 9, 0), move(1, 0), LOG]))
        for calls in lists:
            before = list(calls)
            answers(calls)
            self.assertEqual(calls, before)

    def test_the_answer_is_a_list_of_its_own(self):
        calls = joined(ALL_CALLS)
        first = answers(calls)
        kept = list(first)
        first.clear()
        self.assertEqual(answers(calls), kept)

    def test_the_same_list_answers_the_same_behind_others(self):
        lists = [joined(ALL_CALLS)]
        for seed in range(12):
            slow = some_land(seed)
            lists.append(joined([land(slow.text())] + [need(p, 0, 3) for p in range(slow.places)]))
            party = (slow.places - 1, 0, 3, slow.limit)
            lists.append(joined([land(slow.text()), plan(some_plan(slow, seed).text()), check(*party), JOURNEY,
                                 follow(*party, [0, 1, 0]), begin(*party, 0), bear(0, 0), move(0, 0), JOURNEY, LOG]))
        lists.append(land("x"))
        first = [answers(calls) for calls in lists]
        self.assertEqual([answers(calls) for calls in reversed(lists)], first[::-1])
        self.assertEqual([answers(list(calls)) for calls in lists], first)

    def test_nothing_is_printed(self):
        out, err = io.StringIO(), io.StringIO()
        with contextlib.redirect_stdout(out), contextlib.redirect_stderr(err):
            answers(joined(ALL_CALLS))
        self.assertEqual(out.getvalue() + err.getvalue(), "")

    def test_every_call_has_a_form_and_an_answerer(self):
        self.assertEqual(list(desk.ANSWERERS), list(range(19)))
        self.assertEqual(list(call_forms.FORMS), list(range(19)))
        self.assertEqual(list(call_forms.ROWS), [0, 7, 11, 12])


if __name__ == "__main__":
    unittest.main()
