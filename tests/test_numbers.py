import unittest

from model import FIRST, ROW, chain, numbered, value
from nestsets.errors import NoNumber, NoPair, NoSet, NoText, SetError
from nestsets.nests import is_less, is_nest, nest
from nestsets.numbers import nest_of, number_of

GREATEST = 2 ** 64 - 1
EDGES = (
    0, 1, 2, 3, 4, 15, 16, 17, 63, 64, 65, 255, 256, 2 ** 16 - 1, 2 ** 16, 2 ** 16 + 1, 2 ** 31, 2 ** 32 - 1,
    2 ** 32, 2 ** 53 + 1, 2 ** 62, 2 ** 63 - 1, 2 ** 63, 2 ** 63 + 1, 0x123456789ABCDEF0, GREATEST - 1, GREATEST,
)
WITHOUT_NUMBER = (
    (numbered(64),),
    ((), numbered(64)),
    (numbered(63), numbered(64)),
    (numbered(65),),
    (numbered(2 ** 16),),
    ((), ((),), numbered(2 ** 63)),
    (numbered(GREATEST),),
    ((numbered(64),),),
    ((), ((), numbered(64))),
    (((numbered(64),),),),
    chain(6),
    chain(7),
    chain(30),
    ((), chain(29)),
)
OUT_OF_BOUNDS = (-1, -2, -64, -GREATEST, -(10 ** 5000), GREATEST + 1, GREATEST + 2, 2 ** 65, 2 ** 128, 10 ** 5000)


class NumberOf(unittest.TestCase):
    def test_the_first_ones(self):
        for number, one in enumerate(FIRST):
            self.assertEqual(number_of(one), number)

    def test_the_sum_over_the_members(self):
        for number in list(range(600)) + list(EDGES):
            self.assertEqual(number_of(numbered(number)), value(numbered(number)))

    def test_the_greatest_one(self):
        self.assertEqual(number_of(tuple([numbered(number) for number in range(64)])), GREATEST)

    def test_a_member_whose_number_is_63(self):
        self.assertEqual(number_of((numbered(63),)), 2 ** 63)
        self.assertEqual(number_of(((), numbered(63))), 2 ** 63 + 1)

    def test_the_deepest_chain_that_has_one(self):
        self.assertEqual([number_of(chain(depth)) for depth in range(6)], [0, 1, 2, 4, 16, 65536])

    def test_no_number_where_a_member_is_above_63_or_has_none(self):
        for one in WITHOUT_NUMBER:
            with self.assertRaises(NoNumber, msg=one):
                number_of(one)

    def test_the_number_is_an_int_and_no_truth(self):
        for one in FIRST:
            self.assertIs(type(number_of(one)), int)

    def test_each_has_one_number_in_the_order_of_nests(self):
        with_number = ROW[:ROW.index((numbered(64),))]
        told = [number_of(one) for one in with_number]
        self.assertEqual(told, sorted(set(told)))


class NestOf(unittest.TestCase):
    def test_the_first_ones(self):
        for number, one in enumerate(FIRST):
            self.assertEqual(nest_of(number), one)

    def test_the_nest_with_this_number(self):
        for number in list(range(600)) + list(EDGES):
            self.assertEqual(nest_of(number), numbered(number))

    def test_there_and_back(self):
        for number in list(range(2000)) + list(EDGES):
            self.assertEqual(number_of(nest_of(number)), number)

    def test_each_power_of_two(self):
        for place in range(64):
            self.assertEqual(nest_of(2 ** place), (numbered(place),))
            self.assertEqual(nest_of(2 ** place - 1), tuple([numbered(less) for less in range(place)]))

    def test_the_greatest_one(self):
        self.assertEqual(nest_of(GREATEST), tuple([numbered(number) for number in range(64)]))

    def test_what_is_told_is_a_nest(self):
        for number in EDGES:
            self.assertIs(type(nest_of(number)), tuple)
            self.assertIs(is_nest(nest_of(number)), True, number)
            self.assertEqual(nest(nest_of(number)[::-1]), nest_of(number))

    def test_nests_are_in_the_order_of_numbers(self):
        for one in EDGES:
            for other in EDGES:
                self.assertIs(is_less(nest_of(one), nest_of(other)), one < other, (one, other))

    def test_no_number_for_all_other_whole_numbers(self):
        for number in OUT_OF_BOUNDS:
            with self.assertRaises(NoNumber):
                nest_of(number)

    def test_the_same_is_told_again(self):
        for number in EDGES:
            self.assertEqual(nest_of(number), nest_of(number))
        for number in OUT_OF_BOUNDS[:2] + OUT_OF_BOUNDS[:2]:
            with self.assertRaises(NoNumber):
                nest_of(number)


class Refusals(unittest.TestCase):
    def refusals(self):
        found = []
        for deed, handed in ((number_of, WITHOUT_NUMBER), (nest_of, OUT_OF_BOUNDS)):
            for thing in handed:
                try:
                    deed(thing)
                except Exception as error:
                    found.append(error)
        return found

    def test_each_is_a_no_number_and_no_other_refusal(self):
        refusals = self.refusals()
        self.assertEqual(len(refusals), len(WITHOUT_NUMBER) + len(OUT_OF_BOUNDS))
        for error in refusals:
            self.assertIsInstance(error, NoNumber)
            self.assertNotIsInstance(error, (NoText, NoPair, NoSet))

    def test_set_error_and_value_error_take_them(self):
        for above in (SetError, ValueError):
            with self.assertRaises(above):
                number_of((numbered(64),))
            with self.assertRaises(above):
                nest_of(-1)
            with self.assertRaises(above):
                nest_of(GREATEST + 1)


if __name__ == "__main__":
    unittest.main()
