"""Sums of squares as texts."""

import itertools
import re
import unittest

from plain import NO_NUMBER_INSIDE, NO_NUMBERS, NUMBERS, OF_NO_USE, WHOLE_BUT_BEYOND, DoorCase
from squarefield.answers import Three, Two
from squarefield.errors import BadNumber, BadParts, BadText
from squarefield.sums import four, three, two, ways
from squarefield.texts import read, written

SIGNS = [chr(code) for code in range(32, 127)] + ["\n", "\t", "\r", "\0"]
SHAPE = re.compile(r"(0|[1-9][0-9]*) = ((?:0|[1-9][0-9]*)\^2(?: \+ (?:0|[1-9][0-9]*)\^2){0,3})")
SAMPLES = [
    ("0 = 0^2", (0, [0])), ("1 = 1^2", (1, [1])), ("5 = 1^2 + 2^2", (5, [1, 2])), ("100 = 0^2 + 10^2", (100, [0, 10])),
    ("14 = 1^2 + 2^2 + 3^2", (14, [1, 2, 3])), ("7 = 1^2 + 1^2 + 1^2 + 2^2", (7, [1, 1, 1, 2])),
    ("10000 = 100^2", (10000, [100])), ("10000 = 50^2 + 50^2 + 50^2 + 50^2", (10000, [50, 50, 50, 50])),
    ("0 = 0^2 + 0^2 + 0^2 + 0^2", (0, [0, 0, 0, 0])),
]


# By the words of point 11, another way than the program's: a shape, then the numbers.
def plainly_read(text):
    match = SHAPE.fullmatch(text)
    if match is None or len(text) > 1000:
        return None
    number = int(match.group(1))
    parts = [int(piece[:-2]) for piece in match.group(2).split(" + ")]
    if number > 10000 or parts != sorted(parts) or sum(part * part for part in parts) != number:
        return None
    return (number, parts)


def all_small_sums(most):
    for many in range(1, 5):
        for parts in itertools.combinations_with_replacement(range(most), many):
            yield sum(part * part for part in parts), list(parts)


class Written(DoorCase):
    def test_ordinary_and_edges(self):
        for text, (number, parts) in SAMPLES:
            told = written(number, parts)
            self.assertEqual(told, text)
            self.assertIs(type(told), str)

    def test_all_small_sums(self):
        for number, parts in all_small_sums(12):
            self.assertEqual(written(number, parts), str(number) + " = " + " + ".join(str(part) + "^2" for part in parts))

    def test_what_is_no_number_is_refused(self):
        for parts in [[1, 2], [0], [], None]:
            self.each_refused(BadNumber, lambda value: written(value, parts), NO_NUMBERS)

    def test_what_is_no_list_of_1_to_4_numbers_is_refused(self):
        for number in [0, 5, 10000]:
            wrong = OF_NO_USE + WHOLE_BUT_BEYOND + [0, 5, 100, (1, 2), (0,), (100,), "12", "100", {1: 2}, {100: True}]
            self.each_refused(BadParts, lambda value: written(number, value), wrong)
        self.refused(BadParts, written, 0, [])
        self.refused(BadParts, written, 0, [0, 0, 0, 0, 0])
        self.refused(BadParts, written, 5, [0, 0, 0, 1, 2])
        self.refused(BadParts, written, 5, [1, 1, 1, 1, 1])
        self.refused(BadParts, written, 0, [0] * 100000)
        for place, value in enumerate(NO_NUMBER_INSIDE):
            for parts in [[value], [value, 2], [1, value], [0, value, 2], [0, 0, value, 2]]:
                for number in [0, 1, 4, 5]:
                    self.refused(BadParts, written, number, parts, place=place)

    def test_parts_below_0_are_refused(self):
        for number, parts in [(1, [-1]), (5, [-2, 1]), (5, [-1, 2]), (2, [-1, 1]), (5, [-2, -1])]:
            self.refused(BadParts, written, number, parts, place=parts)

    def test_a_falling_list_is_refused(self):
        for number, parts in [(5, [2, 1]), (14, [1, 3, 2]), (14, [2, 1, 3]), (7, [2, 1, 1, 1]), (7, [1, 1, 2, 1]), (1, [1, 0])]:
            self.refused(BadParts, written, number, parts, place=parts)

    def test_another_sum_is_refused(self):
        for number, parts in all_small_sums(4):
            for other in range(41):
                if other != number:
                    self.refused(BadParts, written, other, parts, place=parts)
        self.refused(BadParts, written, 10000, [101])
        self.refused(BadParts, written, 10000, [10000])
        self.refused(BadParts, written, 9999, [100])

    def test_of_two_wrong_things_the_number_is_refused_first(self):
        for number in [None, True, "5", [1, 2], (5,), -1, 10001]:
            for parts in [None, True, "12", (1, 2), [], [2, 1], [0] * 5, [-1], [1, 2], [1, 100]]:
                self.refused(BadNumber, written, number, parts, place=parts)

    def test_the_list_is_neither_changed_nor_kept(self):
        for number, parts in [(5, [1, 2]), (7, [1, 1, 1, 2]), (0, [0])]:
            before = list(parts)
            text = written(number, parts)
            self.assertEqual(parts, before)
            parts[0] = 9
            self.assertEqual(written(number, before), text)
        for number, parts in [(5, [2, 1]), (5, [1, 1, 1, 1, 1]), (4, [1, 2]), (5, [True, 2]), (None, [2, 1])]:
            before = list(parts)
            self.refused(BadParts if number is not None else BadNumber, written, number, parts)
            self.assertEqual(parts, before)


class Read(DoorCase):
    def held(self, text):
        due = plainly_read(text)
        if due is None:
            self.refused(BadText, read, text, place=text)
        else:
            self.assertEqual(read(text), due)

    def test_ordinary_and_edges(self):
        for text, due in SAMPLES:
            told = read(text)
            self.assertEqual(told, due)
            self.assertEqual(plainly_read(text), due)
            self.assertIs(type(told), tuple)
            self.assertIs(type(told[1]), list)
            for number in [told[0]] + told[1]:
                self.whole(number)

    def test_there_and_back_for_every_number(self):
        for number in NUMBERS:
            lists = [list(pair) for pair in ways(number)] + [four(number).parts]
            if isinstance(three(number), Three):
                lists.append(three(number).parts)
            if isinstance(two(number), Two) and two(number).one == 0:
                lists.append([two(number).other])
            for parts in lists:
                text = written(number, parts)
                self.assertEqual(read(text), (number, parts))
                self.assertEqual(written(*read(text)), text)

    def test_there_and_back_for_all_small_sums(self):
        for number, parts in all_small_sums(12):
            self.assertEqual(read(written(number, parts)), (number, parts))

    def test_one_sign_left_out(self):
        for text, _ in SAMPLES:
            for place in range(len(text)):
                self.held(text[:place] + text[place + 1:])

    def test_one_sign_put_in(self):
        for text, _ in SAMPLES:
            for place in range(len(text) + 1):
                for sign in SIGNS:
                    self.held(text[:place] + sign + text[place:])

    def test_one_sign_changed(self):
        for text, _ in SAMPLES:
            for place in range(len(text)):
                for sign in SIGNS:
                    self.held(text[:place] + sign + text[place + 1:])

    def test_all_short_texts_of_the_signs_in_use(self):
        for many in range(5):
            for signs in itertools.product("01 =^2+", repeat=many):
                self.held("".join(signs))
                self.held("4 = " + "".join(signs))
                self.held("".join(signs) + "2^2")

    def test_a_needless_nought(self):
        for text in [
            "05 = 1^2 + 2^2", "5 = 01^2 + 2^2", "5 = 1^2 + 02^2", "00 = 0^2", "0 = 00^2", "000 = 0^2", "010000 = 100^2",
            "10000 = 0100^2", "1 = 1^02", "1 = 00001^2", "00001 = 1^2",
        ]:
            self.refused(BadText, read, text, place=text)

    def test_signs_of_numbers(self):
        for text in ["+5 = 1^2 + 2^2", "-0 = 0^2", "1 = -1^2", "1 = +1^2", "5 = -2^2 + 1^2", "1_0 = 1^2 + 3^2", "1.0 = 1^2"]:
            self.refused(BadText, read, text, place=text)

    def test_a_falling_list_five_parts_or_none(self):
        for text in [
            "5 = 2^2 + 1^2", "14 = 1^2 + 3^2 + 2^2", "7 = 2^2 + 1^2 + 1^2 + 1^2", "0 = 0^2 + 0^2 + 0^2 + 0^2 + 0^2",
            "5 = 1^2 + 1^2 + 1^2 + 1^2 + 1^2", "0 = ", "0 =", "0", "5", "5 = 5", "1 = 1", "4 = 2^2 + ", "4 =  + 2^2", "4 = ^2",
        ]:
            self.refused(BadText, read, text, place=text)

    def test_another_sum(self):
        for number, parts in all_small_sums(4):
            right = " + ".join(f"{part}^2" for part in parts)
            for other in range(41):
                self.held(f"{other} = {right}")

    def test_numbers_above_10000(self):
        for text in [
            "10001 = 1^2 + 100^2", "10201 = 101^2", "1000000 = 1000^2", "100000000 = 10000^2", "20000 = 100^2 + 100^2",
            "10000 = 10000^2", "99999 = 99999^2", "10000 = 100000^2",
        ]:
            self.refused(BadText, read, text, place=text)

    def test_blanks_and_rows_about_it(self):
        for text in [
            " 5 = 1^2 + 2^2", "5 = 1^2 + 2^2 ", "5 = 1^2 + 2^2\n", "\n5 = 1^2 + 2^2", "5=1^2+2^2", "5 =1^2 + 2^2",
            "5 = 1^2+ 2^2", "5  = 1^2 + 2^2", "5 = 1 ^2 + 2^2", "5 = 1^ 2 + 2^2", "5 = 1^2 + 2^2\n5 = 1^2 + 2^2",
            "5 = 5 = 1^2 + 2^2", "1^2 + 2^2 = 5", "5 == 1^2 + 2^2", "5 = 1^2 + + 2^2", "5 = 1^2 - 2^2", "5 = 1^3 + 2^2",
            "5 = 1**2 + 2**2", "five = 1^2 + 2^2",
        ]:
            self.refused(BadText, read, text, place=text)

    def test_an_empty_text_and_very_long_ones(self):
        self.refused(BadText, read, "")
        many = 200000
        for place, text in enumerate([
            "1" * many, "0" * many, " " * many, "1" * many + " = 1^2", "1 = " + "1" * many + "^2", "0" * many + "1 = 1^2",
            "1 = " + "0" * many + "1^2", "0 = " + " + ".join(["0^2"] * many), " = " * many, " + " * many, "^2" * many,
            "5 = 1^2 + 2^2" * many, "9" * 5000 + " = 1^2", "1 = " + "9" * 5000 + "^2", "1 = 1^2" + " " * many,
        ]):
            self.refused(BadText, read, text, place=place)

    def test_what_is_no_text_is_refused(self):
        self.each_refused(BadText, read, OF_NO_USE + WHOLE_BUT_BEYOND)
        self.each_refused(BadText, read, [0, 5, (5, [1, 2]), ["5 = 1^2 + 2^2"], ("5 = 1^2 + 2^2",), {"5 = 1^2 + 2^2": 1}])

    def test_what_was_told_may_be_changed(self):
        told = read("5 = 1^2 + 2^2")
        told[1].append(3)
        told[1][0] = 7
        self.assertEqual(read("5 = 1^2 + 2^2"), (5, [1, 2]))
        self.assertIsNot(read("5 = 1^2 + 2^2")[1], read("5 = 1^2 + 2^2")[1])


class Arguments(unittest.TestCase):
    def test_they_bear_their_names(self):
        self.assertEqual(written(parts=[1, 2], number=5), "5 = 1^2 + 2^2")
        self.assertEqual(read(text="5 = 1^2 + 2^2"), (5, [1, 2]))


if __name__ == "__main__":
    unittest.main()
