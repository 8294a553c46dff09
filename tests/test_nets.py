import itertools
import unittest

from model import FIRST, ROW, chain, counted, nest_from, nest_with, numbered
from nestsets.errors import NoNumber, NoPair, NoSet, NoText, SetError
from nestsets.nests import is_nest
from nestsets.nets import count_of, counting, sets_of

RINGS = (
    ((0,),),
    ((0, 0),),
    ((1,), (0,)),
    ((1,), (1,)),
    ((), (1,)),
    ((0,), ()),
    ((1,), (2,), (0,)),
    ((), (2,), (3,), (1,)),
    ((1,), (2,), (1,)),
    ((1,), (), (3,), (2,)),
    ((), (0, 2), (0, 1)),
    ((1, 3), (2,), (), (3,)),
    ((), (0,), (0, 1, 2)),
    tuple([((point + 1) % 12,) for point in range(12)]),
    tuple([(point + 1,) for point in range(11)]) + ((0,),),
    tuple([(point + 1,) for point in range(11)]) + ((11,),),
    tuple([()] * 10) + ((11,), (10,)),
    tuple([(point - 1,) if point else (11,) for point in range(12)]),
)


def comes_to_itself(net):
    """Whether from some point one can come to itself, by all that can be come to."""
    for start in range(len(net)):
        reached = set(net[start])
        for _ in net:
            reached |= {further for point in reached for further in net[point]}
        if start in reached:
            return True
    return False


def set_told(net, point):
    return frozenset([set_told(net, led_to) for led_to in net[point]])


def nests_told(net):
    return tuple([nest_from(set_told(net, point)) for point in range(len(net))])


def nets_of(length):
    leads = [row for many in range(length + 1) for row in itertools.combinations(range(length), many)]
    return itertools.product(leads, repeat=length)


def renumbered(net, places):
    """The same net, with point p at places[p]."""
    moved = [()] * len(net)
    for point, leads in enumerate(net):
        moved[places[point]] = tuple([places[led_to] for led_to in leads])
    return tuple(moved)


class SetsOf(unittest.TestCase):
    def assert_refused(self, net):
        with self.assertRaises(NoSet, msg=net):
            sets_of(net)

    def test_of_no_points(self):
        self.assertEqual(sets_of(()), ())

    def test_points_that_lead_nowhere(self):
        for length in range(1, 13):
            self.assertEqual(sets_of(((),) * length), ((),) * length)

    def test_written_out(self):
        self.assertEqual(sets_of(((), (0,))), ((), ((),)))
        self.assertEqual(sets_of(((1,), ())), (((),), ()))
        self.assertEqual(sets_of(((1, 2), (2,), ())), (((), ((),)), ((),), ()))
        self.assertEqual(sets_of(((), (0,), (1,), (0, 1))), FIRST[:4])

    def test_points_that_lead_to_the_same_point_several_times(self):
        self.assertEqual(sets_of(((), (0, 0))), ((), ((),)))
        self.assertEqual(sets_of(((1, 2, 1, 2, 2), (), (1, 1, 1))), (((), ((),)), (), ((),)))

    def test_leads_in_any_order(self):
        for leads in itertools.permutations(range(4)):
            self.assertEqual(sets_of(((), (0,), (1,), (0, 1), leads)), FIRST[:4] + (FIRST[:4],))

    def test_points_built_alike_tell_the_same(self):
        self.assertEqual(sets_of(((), (), (0,), (1,), (0, 1))), ((), (), ((),), ((),), ((),)))
        self.assertEqual(sets_of(((), (), (0,), (1,), (2,), (3, 2), (4, 5))), nests_told(
            ((), (), (0,), (1,), (2,), (3, 2), (4, 5))))
        told = sets_of(((2, 3), (3,), (), (4,), ()))
        self.assertEqual(told, (((), ((),)), (((),),), (), ((),), ()))

    def test_points_numbered_in_any_order(self):
        net = ((), (0,), (0, 1), (1, 2), (3,))
        told = sets_of(net)
        for places in itertools.permutations(range(5)):
            moved = sets_of(renumbered(net, places))
            self.assertEqual(tuple([moved[place] for place in places]), told)

    def test_every_net_of_few_points(self):
        for length in range(4):
            for net in nets_of(length):
                if comes_to_itself(net):
                    self.assert_refused(net)
                else:
                    self.assertEqual(sets_of(net), nests_told(net), net)

    def test_many_nets_of_four_points(self):
        for net in itertools.islice(nets_of(4), 0, None, 7):
            if comes_to_itself(net):
                self.assert_refused(net)
            else:
                self.assertEqual(sets_of(net), nests_told(net), net)

    def test_two_tell_the_same_just_if_what_they_lead_to_does(self):
        net = ((), (), (0,), (1, 0), (2,), (3, 2), (0, 2), (1, 3), (4, 6), (5, 7), (8, 0), (9,))
        told = sets_of(net)
        for one, other in itertools.product(range(12), repeat=2):
            here = {told[led_to] for led_to in net[one]}
            there = {told[led_to] for led_to in net[other]}
            self.assertIs(told[one] == told[other], here == there, (one, other))

    def test_twelve_points(self):
        row = tuple([(point + 1,) for point in range(11)]) + ((),)
        self.assertEqual(sets_of(row), tuple([chain(deep) for deep in range(11, -1, -1)]))
        every = tuple([tuple(range(point)) for point in range(12)])
        self.assertEqual(sets_of(every), tuple([counted(number) for number in range(12)]))
        self.assertEqual(sets_of(renumbered(every, range(11, -1, -1))), sets_of(every)[::-1])

    def test_somewhat_beyond_twelve_points(self):
        row = ((),) + tuple([(point,) for point in range(14)])
        self.assertEqual(sets_of(row), tuple([chain(deep) for deep in range(15)]))

    def test_a_tuple_of_nests_is_told(self):
        for net in nets_of(3):
            if not comes_to_itself(net):
                told = sets_of(net)
                self.assertIs(type(told), tuple)
                self.assertEqual(len(told), 3)
                for one in told:
                    self.assertIs(is_nest(one), True)

    def test_rings(self):
        for net in RINGS:
            self.assert_refused(net)

    def test_a_ring_aside_from_the_other_points(self):
        for length in range(1, 12):
            for ring in range(1, 13 - length):
                points = tuple([(length + (place + 1) % ring,) for place in range(ring)])
                self.assert_refused(tuple([(point - 1,) if point else () for point in range(length)]) + points)

    def test_the_refusal_is_a_no_set_and_no_other(self):
        for net in RINGS:
            for above in (NoSet, SetError, ValueError):
                with self.assertRaises(above) as caught:
                    sets_of(net)
                self.assertNotIsInstance(caught.exception, (NoNumber, NoText, NoPair))

    def test_the_same_is_told_again(self):
        net = ((1, 2), (2,), ())
        self.assertEqual(sets_of(net), sets_of(net))
        for again in RINGS[:2] + RINGS[:2]:
            self.assert_refused(again)


class Counting(unittest.TestCase):
    def test_written_out(self):
        self.assertEqual(counting(0), ())
        self.assertEqual(counting(1), ((),))
        self.assertEqual(counting(2), ((), ((),)))
        self.assertEqual(counting(3), ((), ((),), ((), ((),))))

    def test_those_before_it_as_members(self):
        for number in range(9):
            told = counting(number)
            self.assertEqual(told, counted(number))
            self.assertEqual(told, tuple([counting(less) for less in range(number)]))
            self.assertIs(type(told), tuple)
            self.assertIs(is_nest(told), True)

    def test_there_and_back(self):
        for number in range(9):
            self.assertEqual(count_of(counting(number)), number)

    def test_somewhat_beyond_eight(self):
        for number in (9, 10, 12):
            self.assertEqual(counting(number), counted(number))
            self.assertEqual(count_of(counting(number)), number)

    def test_each_is_one_numbers(self):
        self.assertEqual(len({counting(number) for number in range(9)}), 9)


class CountOf(unittest.TestCase):
    def test_counting_nests_that_are_other_objects(self):
        for number in range(9):
            self.assertEqual(count_of(counted(number)), number)

    def test_whole_numbers_and_no_truths(self):
        for number in range(9):
            self.assertIs(type(count_of(counted(number))), int)

    def test_of_all_small_nests_just_the_counting_ones(self):
        numbers = {counted(number): number for number in range(9)}
        small = [numbered(number) for number in range(2100)]
        for one in small + list(ROW):
            told = count_of(one)
            self.assertEqual(told, numbers.get(one), one)
            self.assertIs(told is None, one not in numbers)

    def test_a_member_fewer(self):
        for number in range(2, 9):
            for place in range(number - 1):
                self.assertIsNone(count_of(counted(number)[:place] + counted(number)[place + 1:]))

    def test_a_member_more(self):
        for number in range(9):
            for more in ROW:
                if more not in counted(number + 1):
                    self.assertIsNone(count_of(nest_with(counted(number) + (more,))), (number, more))

    def test_a_member_in_the_place_of_another(self):
        self.assertIsNone(count_of((numbered(0), numbered(2))))
        self.assertIsNone(count_of((numbered(0), numbered(1), numbered(2))))
        self.assertIsNone(count_of(counted(7) + (counted(8),)))

    def test_a_member_of_a_member_more_or_fewer(self):
        for number in range(3, 8):
            for other in (counted(number)[1:], nest_with(counted(number) + (numbered(2),))):
                self.assertIsNone(count_of(nest_with(counted(number) + (other,))))

    def test_deep_ones(self):
        for deep in range(2, 31):
            self.assertIsNone(count_of(chain(deep)))

    def test_the_same_is_told_again(self):
        for one in ROW:
            self.assertEqual(count_of(one), count_of(one))


if __name__ == "__main__":
    unittest.main()
