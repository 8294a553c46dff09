import itertools
import unittest

from model import FIRST, ROW, chain, nest_with, numbered
from nestsets.errors import NoNumber, NoPair, NoSet, NoText, SetError
from nestsets.nests import is_nest
from nestsets.pairs import first, is_map, is_pair, pair, product, second, value

ONE = ((),)
TWO = ((), ((),))
NO_PAIRS = (
    (),
    ((),),
    ((), ((),)),
    (((), ((),)),),
    ((numbered(1),), (numbered(2),)),
    (((),), (((),),)),
    ((numbered(0),), (numbered(1), numbered(2))),
    ((), (numbered(0), numbered(1))),
    ((), (numbered(4),)),
    (numbered(3), numbered(5)),
    (numbered(1), numbered(7)),
    (numbered(1), numbered(2), numbered(3)),
    (numbered(1), numbered(3), numbered(5)),
    (numbered(7),),
    ((), numbered(1), numbered(3)),
    (numbered(3), (chain(29),)),
    ((chain(27),), (chain(28),)),
)
SOURCE = (numbered(0), numbered(2), numbered(5))
TARGET = (numbered(1), numbered(2))


def pair_told(one, other):
    return nest_with(((one,), nest_with((one, other))))


def map_of(*both):
    return nest_with([pair_told(one, other) for one, other in both])


class Pair(unittest.TestCase):
    def test_written_out(self):
        self.assertEqual(pair((), ()), (((),),))
        self.assertEqual(pair((), ((),)), (((),), ((), ((),))))
        self.assertEqual(pair(((),), ()), ((((),),), ((), ((),))))
        self.assertEqual(pair(((),), ((),)), ((((),),),))

    def test_of_each_two_of_a_row(self):
        for one, other in itertools.product(ROW, repeat=2):
            told = pair(one, other)
            self.assertEqual(told, pair_told(one, other), (one, other))
            self.assertIs(type(told), tuple)
            self.assertIs(is_nest(told), True)

    def test_pairs_tell_their_parts(self):
        for one, other in itertools.product(ROW, repeat=2):
            told = pair(one, other)
            self.assertIs(is_pair(told), True)
            self.assertEqual(first(told), one)
            self.assertEqual(second(told), other)

    def test_the_same_just_if_both_parts_are(self):
        row = FIRST[:5] + (chain(28),)
        for one, other in itertools.product(itertools.product(row, repeat=2), repeat=2):
            self.assertIs(pair(*one) == pair(*other), one == other, (one, other))

    def test_parts_either_way_round(self):
        for one, other in itertools.combinations(ROW, 2):
            self.assertNotEqual(pair(one, other), pair(other, one))


class IsPair(unittest.TestCase):
    def assert_refused(self, deed, *handed):
        with self.assertRaises(NoPair, msg=handed):
            deed(*handed)

    def test_what_is_none(self):
        for one in NO_PAIRS:
            self.assertIs(is_nest(one), True, one)
            self.assertIs(is_pair(one), False, one)
            self.assert_refused(first, one)
            self.assert_refused(second, one)

    def test_of_all_small_nests_just_the_pairs(self):
        pairs = {}
        for one, other in itertools.product(range(10), repeat=2):
            pairs[pair_told(numbered(one), numbered(other))] = (numbered(one), numbered(other))
        for number in range(2 ** 10):
            one = numbered(number)
            self.assertIs(is_pair(one), one in pairs, one)
            if one in pairs:
                self.assertEqual((first(one), second(one)), pairs[one])
            else:
                self.assert_refused(first, one)
                self.assert_refused(second, one)

    def test_a_member_more_or_fewer(self):
        for one, other in itertools.permutations(FIRST[:6], 2):
            told = pair(one, other)
            self.assertIs(is_pair(told[1:]), False)
            self.assertIs(is_pair(nest_with(told + ((),))), False)
            self.assertIs(is_pair(nest_with(told + ((other,),))), False)
            self.assertIs(is_pair(nest_with(((one,), nest_with((one, other, FIRST[7]))))), False)

    def test_one_alone_in_one_alone_is_a_pair_of_like_parts(self):
        for one in ROW:
            self.assertIs(is_pair(((one,),)), True)
            self.assertEqual(first(((one,),)), one)
            self.assertEqual(second(((one,),)), one)

    def test_the_refusal_is_a_no_pair_and_no_other(self):
        for deed, handed in ((first, ((),)), (second, ((),)), (value, ((), ()))):
            for above in (NoPair, SetError, ValueError):
                with self.assertRaises(above) as caught:
                    deed(*handed)
                self.assertIsInstance(caught.exception, NoPair)
                self.assertNotIsInstance(caught.exception, (NoNumber, NoText, NoSet))


class Product(unittest.TestCase):
    def sides(self):
        return [(), ONE, TWO, SOURCE, TARGET, ROW[-5:], ROW[3:9], (chain(28),), (numbered(7), numbered(8))]

    def test_written_out(self):
        self.assertEqual(product(ONE, ONE), ((((),),),))
        self.assertEqual(product(ONE, TWO), (pair_told((), ()), pair_told((), ((),))))
        self.assertEqual(
            set(product(TWO, ONE)), {pair_told((), ()), pair_told(((),), ())})

    def test_all_pairs(self):
        for one, other in itertools.product(self.sides(), repeat=2):
            told = product(one, other)
            self.assertEqual(told, map_of(*itertools.product(one, other)), (one, other))
            self.assertIs(type(told), tuple)
            self.assertIs(is_nest(told), True)

    def test_as_many_as_both_multiplied(self):
        for one, other in itertools.product(self.sides(), repeat=2):
            self.assertEqual(len(product(one, other)), len(one) * len(other))

    def test_the_empty_nest_on_either_side(self):
        for one in ROW:
            self.assertEqual(product((), one), ())
            self.assertEqual(product(one, ()), ())

    def test_forty_and_somewhat_beyond(self):
        for length in (5, 6):
            one = ROW[:length]
            other = ROW[4:12]
            self.assertEqual(product(one, other), map_of(*itertools.product(one, other)))

    def test_each_member_tells_its_parts(self):
        for member in product(SOURCE, TARGET):
            self.assertIn(first(member), SOURCE)
            self.assertIn(second(member), TARGET)


class IsMap(unittest.TestCase):
    def test_every_map(self):
        for seconds in itertools.product(TARGET, repeat=3):
            self.assertIs(is_map(map_of(*zip(SOURCE, seconds)), SOURCE, TARGET), True)

    def test_of_all_rows_of_pairs_just_the_maps(self):
        every = tuple(itertools.product(SOURCE, TARGET))
        maps = [set(zip(SOURCE, seconds)) for seconds in itertools.product(TARGET, repeat=3)]
        for length in range(7):
            for some in itertools.combinations(every, length):
                self.assertIs(is_map(map_of(*some), SOURCE, TARGET), set(some) in maps, some)

    def test_the_empty_map(self):
        for one in ROW:
            self.assertIs(is_map((), (), one), True)
            self.assertIs(is_map((), one, ()), one == ())
            self.assertIs(is_map((), one, one), one == ())
        self.assertIs(is_map(map_of(((), ())), (), ONE), False)
        self.assertIs(is_map(map_of(((), ())), ONE, ()), False)

    def test_a_pair_left_out(self):
        told = map_of(*zip(SOURCE, TARGET + TARGET))
        for place in range(3):
            self.assertIs(is_map(told[:place] + told[place + 1:], SOURCE, TARGET), False)

    def test_one_too_many_for_the_same_first_part(self):
        self.assertIs(is_map(map_of(*zip(SOURCE, TARGET + TARGET), (SOURCE[0], TARGET[1])), SOURCE, TARGET), False)
        # As many pairs as there are members, but one member is first twice.
        twice = map_of((SOURCE[0], TARGET[0]), (SOURCE[0], TARGET[1]), (SOURCE[1], TARGET[0]))
        self.assertIs(is_map(twice, SOURCE, TARGET), False)

    def test_a_pair_that_leads_beyond(self):
        some = list(zip(SOURCE, TARGET + TARGET))
        self.assertIs(is_map(map_of(*some), SOURCE, TARGET), True)
        self.assertIs(is_map(map_of(*some[:2], (SOURCE[2], numbered(9))), SOURCE, TARGET), False)
        self.assertIs(is_map(map_of(*some, (numbered(9), TARGET[0])), SOURCE, TARGET), False)
        self.assertIs(is_map(map_of(*some[:2], (numbered(9), TARGET[0])), SOURCE, TARGET), False)
        self.assertIs(is_map(map_of(*some), SOURCE, TARGET[1:]), False)
        self.assertIs(is_map(map_of(*some), SOURCE[1:], TARGET), False)

    def test_the_wrong_way_round(self):
        told = map_of((numbered(0), numbered(1)))
        self.assertIs(is_map(told, (numbered(0),), (numbered(1),)), True)
        self.assertIs(is_map(told, (numbered(1),), (numbered(0),)), False)

    def test_a_member_that_is_no_pair(self):
        told = map_of(*zip(SOURCE, TARGET + TARGET))
        for wrong in NO_PAIRS:
            self.assertIs(is_map(nest_with(told + (wrong,)), SOURCE, TARGET), False, wrong)
            self.assertIs(is_map(nest_with(told[:2] + (wrong,)), SOURCE, TARGET), False, wrong)
            self.assertIs(is_map((wrong,), (), TARGET), False, wrong)

    def test_more_may_be_in_the_second_nest(self):
        told = map_of(*zip(SOURCE, TARGET + TARGET))
        self.assertIs(is_map(told, SOURCE, ROW), True)

    def test_to_itself(self):
        for one in ROW[:20]:
            self.assertIs(is_map(map_of(*zip(one, one)), one, one), True)


class Value(unittest.TestCase):
    def test_of_every_map(self):
        for seconds in itertools.product(TARGET, repeat=3):
            told = map_of(*zip(SOURCE, seconds))
            for here, there in zip(SOURCE, seconds):
                self.assertEqual(value(told, here), there)

    def test_of_a_long_map(self):
        told = map_of(*zip(ROW, ROW[::-1]))
        for here, there in zip(ROW, ROW[::-1]):
            self.assertEqual(value(told, here), there)

    def test_like_parts(self):
        told = map_of(*zip(SOURCE, SOURCE))
        for here in SOURCE:
            self.assertEqual(value(told, here), here)

    def test_no_pair_where_there_is_none(self):
        for told in ((), map_of(*zip(SOURCE, TARGET + TARGET)), map_of((numbered(2), numbered(3)))):
            for here in (numbered(1), numbered(3), numbered(6), chain(28), told):
                with self.assertRaises(NoPair):
                    value(told, here)

    def test_a_second_part_alone_is_not_found(self):
        told = map_of((numbered(0), numbered(1)))
        with self.assertRaises(NoPair):
            value(told, numbered(1))

    def test_members_that_are_no_pairs_tell_nothing(self):
        for wrong in NO_PAIRS:
            for here in FIRST:
                with self.assertRaises(NoPair):
                    value((wrong,), here)
            self.assertEqual(value(nest_with((wrong, pair_told(numbered(6), numbered(4)))), numbered(6)), numbered(4))


class Again(unittest.TestCase):
    def test_the_same_is_told_again(self):
        told = map_of(*zip(SOURCE, TARGET + TARGET))
        for _ in range(2):
            self.assertEqual(pair(ONE, TWO), pair_told(ONE, TWO))
            self.assertEqual(product(SOURCE, TARGET), map_of(*itertools.product(SOURCE, TARGET)))
            self.assertIs(is_map(told, SOURCE, TARGET), True)
            self.assertEqual(value(told, SOURCE[0]), TARGET[0])
            with self.assertRaises(NoPair):
                first(())


if __name__ == "__main__":
    unittest.main()
