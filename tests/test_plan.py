"""plan, planform and rule: points 7 to 9 of the promises, and the text of a plan."""

import unittest

from tests.helpers import (FAR_NUMBERS, FORM, PLANFORM, ask, ask_last, land, need, plan, row_of, rule, text_answer,
                           with_row)

LAND = land("place home\nplace hut\nplace cape\nleg hut home 2 4\nleg cape hut 3 5\nleg cape home 9 9\n"
            "cache tin hut 3\ncache box cape 5\ncache oil hut 1\nlimit 20\nstorms 2\n")
OTHER = land("place a\nplace b\nleg b a 1 1")


class RightPlans(unittest.TestCase):
    def test_counts_rules(self):
        self.assertEqual(ask_last(LAND, plan("at hut : go home\n\nat cape : take box go hut # ha\n")), [0, 2])

    def test_no_rules(self):
        for text in ("", "\n\n", "# at hut", "  "):
            self.assertEqual(ask(LAND, plan(text), PLANFORM)[1:], [[0, 0], [0]])

    def test_thirty_rules(self):
        self.assertEqual(ask_last(LAND, plan("at hut : go home\n" * 30)), [0, 30])
        self.assertEqual(ask_last(LAND, plan("at hut : go home\n" * 31)), [-1031])
        self.assertEqual(ask_last(LAND, plan("\n" + "at hut : go home\n" * 30 + "\n#\nat hut : go home")), [-1034])
        self.assertEqual(ask_last(LAND, plan("at hut : go home\n" * 30 + "\n# no rule\n  \n")), [0, 30])

    def test_length_of_2000_bytes(self):
        text = "at hut : go home\n"
        self.assertEqual(ask_last(LAND, plan(text + " " * (2000 - len(text)))), [0, 1])
        self.assertEqual(ask_last(LAND, plan(text + " " * (2001 - len(text)))), [-1])

    def test_a_rule_need_not_be_doable(self):
        text = "at hut : take box go cape\nat home : go home\nat cape : go cape"
        self.assertEqual(ask_last(LAND, plan(text)), [0, 3])

    def test_ends_of_the_ranges(self):
        text = "at hut food >= 0 food < 60 storms >= 0 storms < 8 food >= 060 storms >= 008 : go home"
        self.assertEqual(ask_last(LAND, plan(text)), [0, 1])

    def test_a_new_plan_takes_the_place_of_the_old_one(self):
        answer = ask(LAND, plan("at hut : go home"), plan("at cape : go hut"), PLANFORM, rule(1, 0, 0, 0))
        self.assertEqual(answer[3:], [text_answer("at cape : go hut\n"), [-4]])


class WrongPlans(unittest.TestCase):
    def assert_wrong(self, line):
        front = "at hut : go home\n\n"
        self.assertEqual(ask_last(LAND, plan(line)), [-1001], line)
        self.assertEqual(ask_last(LAND, plan(front + line)), [-1003], line)
        self.assertEqual(ask_last(LAND, plan(front + line + "\nx\n")), [-1003], line)

    def test_wrong_places(self):
        for line in ("at nowhere : go home", "at tin : go home", "at : go home", "at hut : go nowhere",
                     "at hut : go tin", "at hut : go", "at hut home : go home", "at hut : go home home",
                     "at at : go home", "at 1 : go 0"):
            self.assert_wrong(line)

    def test_wrong_shapes(self):
        for line in ("x", "at", "at hut", "at hut :", ":", ": go home", "at hut go home", "hut : go home",
                     "go home", "at hut : home", "at hut: go home", "at hut :go home", "at hut : : go home",
                     "at hut : go home :", "at hut : go : home", "AT hut : go home", "at hut : Go home",
                     "at hut ; go home", "at\thut : go home", "at hut : go home\r", "place x", "limit 3",
                     "at hut : go home at hut : go home", "at hut # : go home", "\xff"):
            self.assert_wrong(line)

    def test_wrong_takings(self):
        for line in ("at hut : take go home", "at hut : take tin home", "at hut : tin go home",
                     "at hut : take nothing go home", "at hut : take hut go home", "at hut : take tin",
                     "at hut : take tin take oil go home", "at hut : go home take tin", "at hut take tin : go home",
                     "at hut : take tin, oil go home", "at hut : take", "at hut : have tin go home",
                     "at hut : take tin go cape go home"):
            self.assert_wrong(line)

    def test_wrong_conditions(self):
        for condition in ("food", "food >=", "food 3", "food >= x", "food >= tin", "food > 3", "food <= 3", "food = 3",
                          "food => 3", "food == 3", "food >=3", "food>= 3", "food < 61", "food >= 61", "food < 0001",
                          "food < -1", "food < 999", "storms", "storms <", "storms < 9", "storms >= 9", "storms > 1",
                          "storms < 0000", "have", "have hut", "have nothing", "have 0", "lack", "lack home",
                          "lack tin oil", "have tin food", "tin", "3", "food < 3 3", "not have tin", "have have tin",
                          "food < 3 and storms < 2", "go", "take", "limit < 3", "food < 3 >= 2"):
            self.assert_wrong("at hut " + condition + " : go home")
            self.assert_wrong("at hut have tin " + condition + " : go home")

    def test_every_byte_in_a_mark(self):
        for byte in range(256):
            for front, right, back in (("at hut food ", "<", " 3 : go home"), ("at hut food ", ">", "= 3 : go home"),
                                       ("at hut food >", "=", " 3 : go home"), ("at hut ", ":", " go home")):
                if byte not in (10, 35):
                    expected = [0, 1] if byte == ord(right) else [-1001]
                    row = row_of(front) + [byte] + row_of(back)
                    self.assertEqual(ask_last(LAND, with_row(7, row)), expected, row)

    def test_no_bytes_or_too_many(self):
        for number in FAR_NUMBERS + (256,):
            self.assertEqual(ask_last(LAND, with_row(7, row_of("at hut : go home#") + [number])), [-1])
            self.assertEqual(ask(with_row(7, [number])), [[-1]])
        for length in (2001, 2098):
            self.assertEqual(ask_last(LAND, with_row(7, [32] * length)), [-1])
        self.assertEqual(ask_last(LAND, with_row(7, [255])), [-1001])

    def test_which_refusal_comes_first(self):
        self.assertEqual(ask(plan("x")), [[-2]])
        self.assertEqual(ask(plan("")), [[-2]])
        self.assertEqual(ask(with_row(7, [32] * 2001)), [[-1]])

    def test_a_refused_plan_changes_nothing(self):
        for wrong in (plan("at cape : go hut\nx"), with_row(7, [256])):
            answer = ask(LAND, plan("at hut : go home"), wrong, PLANFORM, rule(1, 0, 0, 0), rule(2, 0, 0, 0))
            self.assertEqual(answer[3:], [text_answer("at hut : go home\n"), [0, 0, 0], [-4]])
            self.assertEqual(ask(LAND, wrong, PLANFORM)[2], [-3])

    def test_a_plan_leaves_the_land(self):
        answer = ask(LAND, FORM, need(2, 3, 2), plan("at hut : go home"), FORM, need(2, 3, 2))
        self.assertEqual(answer[4:], answer[1:3])


class Planform(unittest.TestCase):
    def test_all_of_a_rule(self):
        text = ("  at   hut food >= 007 storms < 03 have tin lack box food < 020 storms >= 0 :"
                "   take oil tin   go home # x\n"
                "\nat cape : take box go hut\nat home : go cape#")
        expected = ("at hut food >= 7 storms < 3 have tin lack box food < 20 storms >= 0 : take oil tin go home\n"
                    "at cape : take box go hut\nat home : go cape\n")
        self.assertEqual(ask_last(LAND, plan(text), PLANFORM), text_answer(expected))

    def test_a_cache_told_twice_stands_twice(self):
        text = "at hut have tin have tin : take tin oil tin go home\n"
        self.assertEqual(ask_last(LAND, plan(text), PLANFORM), text_answer(text))

    def test_the_form_is_its_own_form(self):
        first = ask_last(LAND, plan("at  hut  storms >= 08 : take tin go home"), PLANFORM)
        self.assertEqual(ask_last(LAND, with_row(7, first[1:]), PLANFORM), first)

    def test_no_plan_told(self):
        self.assertEqual(ask(PLANFORM), [[-2]])
        self.assertEqual(ask(LAND, PLANFORM)[1], [-3])

    def test_a_new_land_has_no_plan(self):
        self.assertEqual(ask(LAND, plan("at hut : go home"), LAND, PLANFORM, rule(1, 0, 0, 0))[3:], [[-3], [-4]])
        self.assertEqual(ask(LAND, plan(""), OTHER, PLANFORM)[3], [-3])

    def test_a_refused_land_leaves_the_plan(self):
        for wrong in (land("x"), land(""), with_row(0, [256])):
            answer = ask(LAND, plan("at hut : go home"), wrong, PLANFORM, rule(1, 0, 0, 0))
            self.assertEqual(answer[3:], [text_answer("at hut : go home\n"), [0, 0, 0]])


class Rule(unittest.TestCase):
    def rules(self, text, *parties):
        return ask(LAND, plan(text), *[rule(*party) for party in parties])[2:]

    def test_the_first_that_fits(self):
        text = "at cape : go hut\nat hut food >= 5 : go home\nat hut : take tin go home\nat hut : go cape"
        self.assertEqual(self.rules(text, (1, 0, 0, 5), (1, 0, 0, 4), (2, 0, 0, 0), (0, 0, 0, 0)),
                         [[1, 0, 0], [2, 1, 0], [0, 0, 1], [-4]])

    def test_food(self):
        parties = [(1, 0, 0, f) for f in (0, 6, 7, 8, 20)]
        self.assertEqual(self.rules("at hut food >= 7 : go home", *parties), [[-4], [-4]] + [[0, 0, 0]] * 3)
        self.assertEqual(self.rules("at hut food < 7 : go home", *parties), [[0, 0, 0]] * 2 + [[-4]] * 3)
        self.assertEqual(self.rules("at hut food >= 0 : go home", *parties), [[0, 0, 0]] * 5)
        self.assertEqual(self.rules("at hut food < 0 : go home", *parties), [[-4]] * 5)

    def test_storms(self):
        parties = [(1, 0, b, 10) for b in (0, 2, 3, 4, 8)]
        self.assertEqual(self.rules("at hut storms >= 3 : go home", *parties), [[-4], [-4]] + [[0, 0, 0]] * 3)
        self.assertEqual(self.rules("at hut storms < 3 : go home", *parties), [[0, 0, 0]] * 2 + [[-4]] * 3)
        self.assertEqual(self.rules("at hut storms < 8 : go home", *parties), [[0, 0, 0]] * 4 + [[-4]])

    def test_have_and_lack(self):
        parties = [(1, s, 0, 0) for s in range(8)]
        for number, name in enumerate(("tin", "box", "oil")):
            have = [[0, 0, 0] if s >> number & 1 else [-4] for s in range(8)]
            lack = [[-4] if s >> number & 1 else [0, 0, 0] for s in range(8)]
            self.assertEqual(self.rules("at hut have %s : go home" % name, *parties), have)
            self.assertEqual(self.rules("at hut lack %s : go home" % name, *parties), lack)

    def test_all_conditions_must_hold(self):
        text = "at hut food >= 3 food < 6 storms >= 1 have tin lack oil : take tin go home"
        right = [(1, 1, 1, 3), (1, 3, 8, 5)]
        wrong = [(1, 1, 1, 2), (1, 1, 1, 6), (1, 1, 0, 3), (1, 0, 1, 3), (1, 5, 1, 3), (2, 1, 1, 3), (0, 1, 1, 3)]
        self.assertEqual(self.rules(text, *right), [[0, 1, 0]] * 2)
        self.assertEqual(self.rules(text, *wrong), [[-4]] * 7)
        self.assertEqual(self.rules("at hut have tin lack tin : go home", *right), [[-4]] * 2)

    def test_the_taking(self):
        text = "at hut : take oil go cape\nat cape : take oil tin box oil tin go home"
        self.assertEqual(self.rules(text, (1, 0, 0, 0), (2, 7, 0, 0)), [[0, 4, 2], [1, 7, 0]])
        self.assertEqual(self.rules("at hut : take tin tin go home", (1, 1, 0, 0)), [[0, 1, 0]])

    def test_a_rule_whose_place_is_home(self):
        self.assertEqual(self.rules("at hut : go home\nat home : take tin go hut", (0, 0, 0, 0)), [[1, 1, 1]])

    def test_the_last_of_thirty(self):
        text = "at hut food < 0 : go home\n" * 29 + "at hut : go cape"
        self.assertEqual(self.rules(text, (1, 0, 0, 0)), [[29, 0, 2]])

    def test_no_plan(self):
        self.assertEqual(ask(LAND, rule(1, 0, 0, 0))[1], [-4])
        self.assertEqual(ask(LAND, plan(""), rule(1, 0, 0, 0))[2], [-4])

    def test_refusals(self):
        told = (LAND, plan("at hut : go home"))
        for number in FAR_NUMBERS:
            for place in range(4):
                call = [9, 1, 0, 0, 0]
                call[1 + place] = number
                self.assertEqual(ask_last(*told, call), [-1])
                self.assertEqual(ask(call), [[-1]])
        for call in (rule(7, 0, 0, 0), rule(1, 16, 0, 0), rule(1, 0, 9, 0), rule(1, 0, 0, 61)):
            self.assertEqual(ask_last(*told, call), [-1])
        for call in (rule(3, 0, 0, 0), rule(6, 0, 0, 0), rule(1, 8, 0, 0), rule(1, 15, 0, 0), rule(1, 0, 0, 21),
                     rule(2, 0, 0, 60)):
            self.assertEqual(ask_last(*told, call), [-3])
            self.assertEqual(ask(call), [[-2]])
        self.assertEqual(ask_last(*told, rule(1, 7, 8, 20)), [0, 0, 0])
        self.assertEqual(ask_last(LAND, rule(3, 0, 0, 0)), [-3])


if __name__ == "__main__":
    unittest.main()
