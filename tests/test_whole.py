"""What the document promises over the whole program."""

import itertools
import unittest

from model import FIRST, ROW, chain, counted, numbered, set_of
from nestsets.deeds import below, both, depth, has, is_closed, joined, parts, shared, within, without
from nestsets.errors import NoNumber, NoPair, NoSet, NoText
from nestsets.nests import is_less, is_nest, nest
from nestsets.nets import count_of, counting, sets_of
from nestsets.numbers import nest_of, number_of
from nestsets.pairs import first, is_map, is_pair, pair, product, second, value
from nestsets.reading import read
from nestsets.writing import written

MAP = tuple(sorted([pair(FIRST[1], FIRST[2]), pair(FIRST[4], FIRST[1])], key=number_of))
TRUTHS = (
    (is_nest, (ROW[9],)), (is_nest, ([],)), (is_nest, ((1,),)), (is_less, (FIRST[1], FIRST[2])),
    (is_less, (FIRST[2], FIRST[1])), (has, (FIRST[3], FIRST[0])), (has, (FIRST[0], FIRST[0])),
    (within, (FIRST[1], FIRST[3])), (within, (FIRST[3], FIRST[1])), (is_closed, (FIRST[3],)), (is_closed, (FIRST[2],)),
    (is_pair, (FIRST[2],)), (is_pair, (FIRST[0],)), (is_map, (MAP, (FIRST[1], FIRST[4]), (FIRST[1], FIRST[2]))),
    (is_map, (MAP, FIRST[0], FIRST[0])),
)
NUMBERS = ((number_of, (FIRST[0],)), (number_of, (FIRST[1],)), (depth, (FIRST[0],)), (depth, (ROW[-1],)),
           (count_of, (FIRST[0],)), (count_of, (FIRST[1],)), (count_of, (counted(8),)))
NESTS = (
    (nest, ((FIRST[2], FIRST[0], FIRST[2]),)), (nest_of, (2 ** 64 - 1,)), (read, ("{{{}},{},{{}}}",)),
    (both, (FIRST[5], FIRST[6])), (shared, (FIRST[5], FIRST[6])), (without, (FIRST[5], FIRST[6])),
    (joined, (FIRST,)), (parts, (FIRST[:6],)), (below, (ROW[-1],)), (pair, (FIRST[5], FIRST[1])), (first, (MAP[0],)),
    (second, (MAP[0],)), (product, (FIRST[:5], FIRST[1:9])), (value, (MAP, FIRST[4])), (counting, (8,)),
)
OTHERS = ((written, (ROW[12],)), (sets_of, (((), (2, 0), (0, 0)),)), (count_of, (FIRST[2],)))
REFUSED = (
    (NoNumber, number_of, (chain(6),)), (NoNumber, nest_of, (-1,)), (NoText, read, ("{",)), (NoPair, first, ((),)),
    (NoPair, second, ((),)), (NoPair, value, (MAP, FIRST[2])), (NoSet, sets_of, (((1,), (0,)),)),
)


def holds_only_known_kinds(thing):
    if type(thing) is tuple:
        return all(holds_only_known_kinds(part) for part in thing)
    return thing is None or type(thing) in (int, bool, str)


def rebuilt(thing):
    return tuple([rebuilt(part) for part in thing]) if isinstance(thing, tuple) else thing


class Kinds(unittest.TestCase):
    def test_truths(self):
        self.assertEqual([deed(*handed) for deed, handed in TRUTHS], [
            True, False, False, True, False, True, False, True, False, True, False, True, False, True, False])
        for deed, handed in TRUTHS:
            self.assertIs(type(deed(*handed)), bool, deed)

    def test_whole_numbers_are_no_truths(self):
        for deed, handed in NUMBERS:
            self.assertIs(type(deed(*handed)), int, deed)

    def test_nests(self):
        for deed, handed in NESTS:
            self.assertIs(is_nest(deed(*handed)), True, deed)

    def test_lists_stand_nowhere(self):
        for deed, handed in TRUTHS + NUMBERS + NESTS + OTHERS:
            self.assertTrue(holds_only_known_kinds(deed(*handed)), deed)

    def test_what_is_handed_in_is_not_changed_and_the_same_is_told_again(self):
        for deed, handed in TRUTHS + NUMBERS + NESTS + OTHERS:
            before = repr(handed)
            told = deed(*handed)
            self.assertEqual(repr(handed), before)
            self.assertEqual(deed(*handed), told)
            self.assertEqual(deed(*rebuilt(handed)), told)

    def test_the_same_is_refused_again(self):
        for refusal, deed, handed in REFUSED * 2:
            with self.assertRaises(refusal):
                deed(*handed)


class Sets(unittest.TestCase):
    def test_the_same_just_if_they_have_the_same_members(self):
        for one, other in itertools.product(ROW, repeat=2):
            same = set_of(one) == set_of(other)
            self.assertIs(one == other, same)
            self.assertIs(written(one) == written(other), same)
            self.assertIs(not is_less(one, other) and not is_less(other, one), same)

    def test_one_nest_one_text_and_one_number(self):
        for number in range(300):
            one = nest_of(number)
            self.assertEqual(number_of(one), number)
            self.assertEqual(read(written(one)), one)
            self.assertEqual(nest(one[::-1]), one)

    def test_deeds_and_numbers_agree(self):
        for here, there in itertools.product(range(48), repeat=2):
            self.assertEqual(number_of(both(nest_of(here), nest_of(there))), here | there)
            self.assertEqual(number_of(shared(nest_of(here), nest_of(there))), here & there)
            self.assertEqual(number_of(without(nest_of(here), nest_of(there))), here & ~there)

    def test_no_row_of_members_goes_on_for_ever(self):
        for one in ROW:
            for lower in below(one):
                self.assertLess(depth(lower), depth(one))
                self.assertIs(is_less(lower, one), True)

    def test_counting_sets_by_a_net(self):
        net = tuple([tuple(range(number)) for number in range(9)])
        self.assertEqual(sets_of(net), tuple([counting(number) for number in range(9)]))
        self.assertEqual([count_of(one) for one in sets_of(net)], list(range(9)))

    def test_products_hold_just_the_maps_pairs(self):
        source, target = FIRST[:3], FIRST[4:6]
        maps = [one for one in parts(product(source, target)) if is_map(one, source, target)]
        self.assertEqual(len(maps), 8)
        for one in maps:
            for here in source:
                self.assertIs(has(target, value(one, here)), True)


if __name__ == "__main__":
    unittest.main()
