"""land and form: points 0 and 1 of the promises, and the text of a land."""

import unittest

from tests.helpers import FORM, FAR_NUMBERS, ask, ask_last, land, need, row_of, text_answer, with_row

SMALL = "place home\nplace hut\nplace cape\nleg hut home 2 4\nleg cape hut 3 5\ncache tin hut 3\n"
SEVEN = "".join("place p%d\n" % number for number in range(7))
PAIRS = [(a, b) for a in range(7) for b in range(7) if a != b]


def legs(count):
    return "".join("leg p%d p%d 1 2\n" % pair for pair in PAIRS[:count])


class RightLands(unittest.TestCase):
    def test_counts_and_numbers(self):
        self.assertEqual(ask(land(SMALL + "limit 12\nstorms 2\n")), [[0, 3, 2, 1, 12, 2]])

    def test_defaults(self):
        self.assertEqual(ask(land("place a")), [[0, 1, 0, 0, 30, 0]])
        self.assertEqual(ask(land("place a\nlimit 7")), [[0, 1, 0, 0, 7, 0]])
        self.assertEqual(ask(land("storms 8\nplace a")), [[0, 1, 0, 0, 30, 8]])

    def test_way_is_two_legs(self):
        answer = ask(land("place a\nplace b\nway a b 2 3"), FORM)
        self.assertEqual(answer[0], [0, 2, 2, 0, 30, 0])
        self.assertEqual(answer[1], text_answer("place a\nplace b\nleg a b 2 3\nleg b a 2 3\nlimit 30\nstorms 0\n"))

    def test_greatest_counts(self):
        caches = "".join("cache c%d p%d 60\n" % (number, number) for number in range(4))
        text = SEVEN + legs(24) + caches + "limit 60\nstorms 8\n"
        self.assertEqual(ask(land(text)), [[0, 7, 24, 4, 60, 8]])

    def test_ends_of_the_ranges(self):
        text = "place a\nplace b\nleg a b 1 12\nleg b a 12 12\ncache x b 1\ncache y b 60\nlimit 1\nstorms 0"
        self.assertEqual(ask(land(text)), [[0, 2, 2, 2, 1, 0]])

    def test_names_of_eight_signs_and_of_one(self):
        text = "place abcdefgh\nplace a2345678\nplace z\ncache z9 z 1\ncache places z 2"
        self.assertEqual(ask(land(text)), [[0, 3, 0, 2, 30, 0]])

    def test_numbers_with_zeros_in_front(self):
        text = "place a\nplace b\nleg a b 001 012\ncache x b 060\nlimit 07\nstorms 000"
        answer = ask(land(text), FORM)
        self.assertEqual(answer[0], [0, 2, 1, 1, 7, 0])
        self.assertEqual(answer[1], text_answer("place a\nplace b\nleg a b 1 12\ncache x b 60\nlimit 7\nstorms 0\n"))

    def test_blanks_remarks_and_empty_lines(self):
        text = "\n  # all of it \xff\x00\t\n   place   a  # home\n#place b\nplace b#place c\n\n  \nleg b a 1 1#"
        self.assertEqual(ask(land(text), FORM)[1], text_answer("place a\nplace b\nleg b a 1 1\nlimit 30\nstorms 0\n"))

    def test_with_and_without_a_last_line_end(self):
        self.assertEqual(ask(land(SMALL)), ask(land(SMALL[:-1])))
        self.assertEqual(ask(land(SMALL + "storms 9")), [[-1007]])

    def test_length_of_2000_bytes(self):
        text = SMALL + "#" * (2000 - len(SMALL))
        self.assertEqual(ask(land(text)), [[0, 3, 2, 1, 30, 0]])
        self.assertEqual(ask(land(text + "#")), [[-1]])

    def test_kinds_of_lines_in_any_order(self):
        text = "limit 9\nplace a\nstorms 1\nplace b\ncache x a 1\nway b a 1 2\nplace c\nleg c a 3 3"
        self.assertEqual(ask(land(text)), [[0, 3, 3, 1, 9, 1]])

    def test_a_new_land_takes_the_place_of_the_old_one(self):
        answer = ask(land(SMALL), land("place a"), FORM, need(2, 0, 0))
        self.assertEqual(answer[1:], [[0, 1, 0, 0, 30, 0], text_answer("place a\nlimit 30\nstorms 0\n"), [-3]])


class WrongLands(unittest.TestCase):
    def assert_wrong_behind(self, front, line):
        number = front.count("\n") + 1
        self.assertEqual(ask(land(front + line)), [[-1000 - number]], line)
        self.assertEqual(ask(land(front + "\n# x\n" + line + "\nalso wrong\n")), [[-1002 - number]], line)

    def test_wrong_places(self):
        lines = ["place", "place x y", "place hut", "place tin", "place abcdefghi", "place 1a", "place A",
                 "place a_b", "place a-b", "place x\t", "place x\r", "place \xe4", "place x:", "Place x",
                 "places x", "place\tx", "placex", "place a\x00"]
        for line in lines:
            self.assert_wrong_behind(SMALL, line)

    def test_words_of_lines_are_no_names(self):
        for word in "place leg way cache limit storms at food have lack take go".split():
            self.assert_wrong_behind(SMALL, "place " + word)
            self.assert_wrong_behind(SMALL, "cache " + word + " hut 1")

    def test_an_eighth_place(self):
        self.assert_wrong_behind(SEVEN, "place x")

    def test_wrong_legs(self):
        ends = ["home home", "hut home", "home nowhere", "nowhere home", "home tin", "tin home", "home",
                "home hut cape"]
        for pair in ends:
            self.assert_wrong_behind(SMALL, "leg " + pair + " 1 2")
        for days in ["0 1", "1 0", "0 0", "1 13", "13 13", "3 2", "12 11", "1", "", "1 2 3", "0001 2", "1 0002",
                     "-1 2", "+1 2", "1 x", "a 2", "1.0 2", "1 999"]:
            self.assert_wrong_behind(SMALL, "leg home cape " + days)

    def test_a_25th_leg(self):
        self.assert_wrong_behind(SEVEN + legs(24), "leg p5 p6 1 2")

    def test_wrong_ways(self):
        for pair in ["home home", "home hut", "hut home", "home nowhere", "nowhere home", "home"]:
            self.assert_wrong_behind(SMALL, "way " + pair + " 1 2")
        for days in ["0 1", "1 13", "3 2", "1", "1 2 3", "0001 2"]:
            self.assert_wrong_behind(SMALL, "way home cape " + days)

    def test_a_way_with_room_for_one_leg_alone(self):
        self.assert_wrong_behind(SEVEN + legs(23), "way p5 p6 1 2")
        self.assertEqual(ask(land(SEVEN + legs(22) + "way p5 p6 1 2")), [[0, 7, 24, 0, 30, 0]])

    def test_wrong_caches(self):
        lines = ["cache", "cache x", "cache x hut", "cache x hut 1 2", "cache hut hut 1", "cache tin cape 1",
                 "cache x nowhere 1", "cache x tin 1", "cache x x 1", "cache x hut 0", "cache x hut 61",
                 "cache x hut 0001", "cache x hut y", "cache abcdefghi hut 1", "cache 9x hut 1", "cache x 1 hut"]
        for line in lines:
            self.assert_wrong_behind(SMALL, line)

    def test_a_fifth_cache(self):
        self.assert_wrong_behind(SMALL + "cache a hut 1\ncache b hut 1\ncache c hut 1\n", "cache d hut 1")

    def test_wrong_limits_and_storms(self):
        for line in ["limit", "limit 0", "limit 61", "limit 0001", "limit x", "limit 1 2", "storms", "storms 9",
                     "storms 0000", "storms x", "storms 1 2", "storms -1"]:
            self.assert_wrong_behind(SMALL, line)

    def test_limit_and_storms_at_most_once(self):
        self.assert_wrong_behind(SMALL + "limit 30\n", "limit 30")
        self.assert_wrong_behind(SMALL + "storms 0\n", "storms 0")

    def test_names_of_places_stand_before(self):
        self.assertEqual(ask(land("place a\nleg a b 1 1\nplace b")), [[-1002]])
        self.assertEqual(ask(land("cache x a 1\nplace a")), [[-1001]])

    def test_other_lines(self):
        for line in ["x", ":", "hut", "at hut : go home", "food 3", "?", "\t", "\xff", "\x00", "\r", "go home",
                     "take tin", "1", "x y", "x 3", "x new hut 1", "x home cape 1 2", "x home cape nowhere 1 2"]:
            self.assert_wrong_behind(SMALL, line)

    def test_every_byte_in_a_name_and_in_a_number(self):
        for byte in range(256):
            if byte in (10, 32, 35):
                continue
            letter, digit = 97 <= byte <= 122, 48 <= byte <= 57
            right = [0, 1, 0, 0, 30, 0]
            self.assertEqual(ask(with_row(0, row_of("place z") + [byte])), [right if letter or digit else [-1001]])
            self.assertEqual(ask(with_row(0, row_of("place ") + [byte])), [right if letter else [-1001]])
            expected = [0, 1, 0, 0, 10 + byte - 48, 0] if digit else [-1002]
            self.assertEqual(ask(with_row(0, row_of("place a\nlimit 1") + [byte])), [expected])

    def test_the_first_wrong_line_is_told(self):
        self.assertEqual(ask(land("place a\n\nx\ny\n")), [[-1003]])
        self.assertEqual(ask(land("x")), [[-1001]])
        self.assertEqual(ask(land("\n" * 1998 + "x")), [[-2999]])

    def test_no_place(self):
        for text in ["", "\n", "# a\n", "limit 3\nstorms 1"]:
            self.assertEqual(ask(land(text)), [[-4]])
        self.assertEqual(ask(land("limit 3\nlimit 3")), [[-1002]])

    def test_no_bytes_or_too_many(self):
        for number in FAR_NUMBERS + (256, -1):
            self.assertEqual(ask(with_row(0, row_of("place a\n# ") + [number])), [[-1]])
        self.assertEqual(ask(with_row(0, [255])), [[-1001]])
        self.assertEqual(ask(with_row(0, [0])), [[-1001]])
        for length in (2001, 2098):
            self.assertEqual(ask(with_row(0, [32] * length)), [[-1]])

    def test_a_refused_land_changes_nothing(self):
        right = land(SMALL + "limit 12\nstorms 2")
        expected = ask(right, FORM, need(2, 0, 2))[1:]
        for wrong in (land("place a\nplace b\nx"), land(""), with_row(0, [256]), with_row(0, [32] * 2001)):
            self.assertEqual(ask(right, wrong, FORM, need(2, 0, 2))[2:], expected)
        self.assertEqual(ask(land("place a\nx"), FORM), [[-1002], [-2]])


class Form(unittest.TestCase):
    def test_all_kinds_in_their_order(self):
        text = ("storms 03\nlimit 015\nplace base\nplace x1\nway x1 base 2 09"
                "\ncache oil x1 5\nplace top\nleg top x1 1 1\ncache bag base 060\nleg top base 012 12")
        expected = ("place base\nplace x1\nplace top\nleg x1 base 2 9\nleg base x1 2 9\nleg top x1 1 1\n"
                    "leg top base 12 12\ncache oil x1 5\ncache bag base 60\nlimit 15\nstorms 3\n")
        self.assertEqual(ask_last(land(text), FORM), text_answer(expected))

    def test_the_form_is_its_own_form(self):
        first = ask_last(land(SMALL + "limit 9"), FORM)
        self.assertEqual(ask_last(with_row(0, first[1:]), FORM), first)

    def test_without_a_land(self):
        self.assertEqual(ask(FORM), [[-2]])


if __name__ == "__main__":
    unittest.main()
