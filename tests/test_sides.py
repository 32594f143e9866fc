"""judge and best: who may play, how uneven, how much waited, the order of the ways."""

import unittest

from evenmatches.calls import answer_next
from evenmatches.reader import Reader
from evenmatches.world import World
from tests.helpers import (
    FARTHEST, TOP, all_seen, begin, best, entries, judge, last, players, queue, queues, result, season, tick, told,
    unqueue, window,
)

WIDE = {"base": TOP, "step": 1}


class Judging(unittest.TestCase):
    def test_two_that_may_play(self):
        ready = [begin(**WIDE), *players(500, 530), *queues(1, 2)]
        self.assertEqual(last(*ready, judge([1], [2])), [0, 1, 30, 0])
        self.assertEqual(last(*ready, judge([2], [1])), [0, 1, 30, 0])

    def test_all_their_parties_waiting_counts_together(self):
        ready = [begin(side=2, **WIDE), *players(5, 20, 31, 7), queue(1), tick(5), queue(2), tick(3), queue(3, 4)]
        self.assertEqual(last(*ready, judge([1, 2], [3])), [0, 1, 13, 11])
        self.assertEqual(last(*ready, judge([3], [2, 1])), [0, 1, 13, 11])

    def test_sides_of_three(self):
        ready = [begin(side=3, **WIDE), *players(1, 2, 4, 8, 16, 32), queue(1, 2, 3), queue(4, 5), queue(6)]
        self.assertEqual(last(*ready, judge([1], [2, 3])), [0, 1, 49, 0])
        self.assertEqual(last(*ready, judge([3, 2], [1])), [0, 1, 49, 0])
        alone = [begin(side=3, **WIDE), *players(1, 2, 4, 8, 16, 32), *queues(1, 2, 3, 4, 5, 6)]
        self.assertEqual(last(*alone, judge([6, 1, 2], [5, 4, 3])), [0, 1, 7, 0])

    def test_a_side_of_too_few(self):
        for side in (2, 3):
            ready = [begin(side=side, **WIDE), *players(*[5] * 5), queue(*range(1, side + 1)), queue(4)]
            self.assertEqual(last(*ready, judge([1], [2])), [0, 0, 1])
            self.assertEqual(last(*ready, judge([2], [1])), [0, 0, 1])

    def test_a_side_of_too_many(self):
        ready = [begin(side=2, **WIDE), *players(*[5] * 5), queue(1, 2), queue(3, 4), queue(5)]
        self.assertEqual(last(*ready, judge([1], [2])), [0, 1, 0, 0])
        self.assertEqual(last(*ready, judge([1, 3], [2])), [0, 0, 1])
        self.assertEqual(last(*ready, judge([1], [2, 3])), [0, 0, 1])
        one = [begin(**WIDE), *players(5, 5, 5, 5), *queues(1, 2, 3, 4)]
        self.assertEqual(last(*one, judge([1, 2], [3, 4])), [0, 0, 1])

    def test_as_many_in_all_but_not_on_each_side(self):
        ready = [begin(side=2, **WIDE), *players(*[5] * 4), queue(1, 2), queue(3), queue(4)]
        self.assertEqual(last(*ready, judge([1, 2], [3])), [0, 0, 1])
        self.assertEqual(last(*ready, judge([2], [3, 1])), [0, 0, 1])

    def test_an_empty_row(self):
        ready = [begin(**WIDE), *players(5, 5), *queues(1, 2)]
        for first, second in (([], [1]), ([1], []), ([], []), ([], [1, 2])):
            self.assertEqual(last(*ready, judge(first, second)), [0, 0, 1])
        self.assertEqual(last(judge([], [])), [0, 0, 1])

    def test_too_few_goes_ahead_of_not_taking_it(self):
        ready = [begin(side=2, base=0, step=1), *players(0, TOP, 5, 5), *queues(1, 2, 3, 4)]
        self.assertEqual(last(*ready, judge([1], [2])), [0, 0, 1])
        self.assertEqual(last(*ready, judge([1, 2], [3])), [0, 0, 1])

    def test_a_party_of_the_first_side_that_does_not_take_it(self):
        # 2 has waited longer: its window is 60, the other's is 10; the mean is 30 from each.
        ready = [begin(base=0, step=10), *players(0, 60), queue(2), tick(5), queue(1), tick(1)]
        self.assertEqual(told(*ready, window(1), window(2))[-2:], [[0, 60], [0, 10]])
        self.assertEqual(last(*ready, judge([2], [1])), [0, 0, 2, 2])

    def test_a_party_of_the_second_side_that_does_not_take_it(self):
        ready = [begin(base=0, step=10), *players(0, 60), queue(2), tick(5), queue(1), tick(1)]
        self.assertEqual(last(*ready, judge([1], [2])), [0, 0, 2, 2])

    def test_the_first_side_goes_first(self):
        ready = [begin(base=0, step=1), *players(0, 600), *queues(1, 2)]
        self.assertEqual(last(*ready, judge([1], [2])), [0, 0, 2, 1])
        self.assertEqual(last(*ready, judge([2], [1])), [0, 0, 2, 2])

    def test_a_row_is_gone_through_as_it_is_told(self):
        ready = [begin(side=2, base=100, step=1), *players(0, 1000, 500, 500), *queues(1, 2, 3, 4)]
        self.assertEqual(last(*ready, judge([1, 2], [3, 4])), [0, 0, 2, 1])
        self.assertEqual(last(*ready, judge([2, 1], [3, 4])), [0, 0, 2, 2])
        self.assertEqual(last(*ready, judge([3, 4], [2, 1])), [0, 0, 2, 2])
        self.assertEqual(last(*ready, judge([3, 2], [1, 4])), [0, 0, 2, 2])
        self.assertEqual(last(*ready, judge([4, 3], [1, 2])), [0, 0, 2, 1])

    def test_a_window_met_exactly_and_missed_by_the_least(self):
        for far_one, wanted in ((200, [0, 1, 200, 0]), (201, [0, 0, 2, 1])):
            ready = [begin(base=100, step=1), *players(0, far_one), *queues(1, 2)]
            self.assertEqual(last(*ready, judge([1], [2])), wanted)

    def test_means_are_not_rounded(self):
        # The one with 5 is 4 and a sixth from the mean of all; the others are five sixths from it.
        row = [begin(side=3, base=4, step=1), *players(0, 0, 0, 0, 0, 5), *queues(*range(1, 7))]
        self.assertEqual(last(*row, judge([1, 2, 3], [4, 5, 6])), [0, 0, 2, 6])
        row = [begin(side=3, base=5, step=1), *players(0, 0, 0, 0, 0, 5), *queues(*range(1, 7))]
        self.assertEqual(last(*row, judge([1, 2, 3], [4, 5, 6])), [0, 1, 5, 0])
        row = [begin(side=3, base=0, step=1), *players(0, 0, 0, 0, 0, 1), *queues(*range(1, 7))]
        self.assertEqual(last(*row, judge([1, 2, 3], [4, 5, 6])), [0, 0, 2, 1])
        below = [begin(side=3, base=4, step=1), *players(5, 5, 5, 5, 5, 0), *queues(*range(1, 7))]
        self.assertEqual(last(*below, judge([6, 1, 2], [3, 4, 5])), [0, 0, 2, 6])

    def test_a_mean_of_a_party_is_not_rounded(self):
        ready = [begin(side=3, base=1, step=1), *players(10, 10, 10, 12, 12, 13), queue(1, 2, 3), queue(4, 5, 6)]
        self.assertEqual(last(*ready, judge([1], [2])), [0, 0, 2, 1])
        ready = [begin(side=3, base=1, step=1), *players(10, 10, 10, 12, 12, 12), queue(1, 2, 3), queue(4, 5, 6)]
        self.assertEqual(last(*ready, judge([1], [2])), [0, 1, 6, 0])

    def test_the_window_is_that_of_now(self):
        ready = [begin(base=0, step=10), *players(0, 60), *queues(1, 2)]
        self.assertEqual(last(*ready, tick(2), judge([1], [2])), [0, 0, 2, 1])
        grown = [begin(side=2, base=0, step=10), *players(0, 60), *queues(1, 2), tick(3), judge([1], [2])]
        self.assertEqual(last(*grown), [0, 0, 1])
        again = [begin(side=2, base=0, step=10), *players(0, 60, 0, 60), queue(1), queue(2), tick(3), queue(3, 4)]
        self.assertEqual(last(*again, judge([1, 2], [3])), [0, 1, 0, 6])

    def test_who_does_not_wait_is_refused(self):
        ready = [begin(**WIDE), *players(*[5] * 5), *queues(1, 2), tick(1), *queues(3, 4, 5), unqueue(6)]
        # 1 and 2 play, 3 is their match, 6 waits no more, 7 is not given yet.
        self.assertEqual(last(*ready, judge([4], [5])), [0, 1, 0, 0])
        for number in (0, 1, 2, 3, 6, 7, -1, -FARTHEST, FARTHEST):
            for first, second in (
                ([number], [4]), ([4], [number]), ([number], []), ([], [number]), ([4, number], [5]),
                ([4], [5, number]),
            ):
                self.assertEqual(last(*ready, judge(first, second)), [-2])

    def test_who_is_told_twice_is_refused(self):
        ready = [begin(side=2, **WIDE), *players(*[5] * 4), *queues(1, 2, 3, 4)]
        for first, second in (
            ([1, 1], [2, 3]), ([1, 2], [3, 3]), ([1, 2], [2, 3]), ([1, 2], [3, 1]), ([1], [1]), ([1, 1], []),
            ([], [2, 2]), ([1, 2, 1], [3, 4]), ([2] * 20, []), ([1] * 20, [1] * 20),
        ):
            self.assertEqual(last(*ready, judge(first, second)), [-4], (first, second))

    def test_who_does_not_wait_goes_ahead_of_who_is_told_twice(self):
        ready = [begin(side=2, **WIDE), *players(*[5] * 4), *queues(1, 2, 3, 4)]
        for first, second in (([9, 9], [1, 2]), ([1, 1], [2, 9]), ([9, 1], [1, 2]), ([9], [9]), ([1] * 19 + [9], [1])):
            self.assertEqual(last(*ready, judge(first, second)), [-2], (first, second))

    def test_rows_of_many(self):
        ready = [begin(**WIDE), *players(*[5] * 12), *queues(*range(1, 13))]
        self.assertEqual(last(*ready, judge(list(range(1, 13)), [])), [0, 0, 1])
        self.assertEqual(last(*ready, judge(list(range(1, 21)), [])), [-2])
        self.assertEqual(told(*ready, judge([8] * 20, [8] * 20), judge([1], [12]))[-2:], [[-4], [0, 1, 0, 0]])

    def test_it_changes_nothing(self):
        ready = [begin(base=300, step=1), *players(500, 600, 9000), *queues(2, 1, 3)]
        seen = told(*ready, *all_seen([1, 2, 3]), tick(1))[len(ready):]
        for call in (judge([1], [2]), judge([1], [3]), judge([1], []), judge([1], [9]), judge([1], [1])):
            self.assertEqual(told(*ready, call, *all_seen([1, 2, 3]), tick(1))[len(ready) + 1:], seen)


class BestOfOne(unittest.TestCase):
    def test_the_least_uneven(self):
        ready = [begin(**WIDE), *players(500, 520, 511, 489), *queues(1, 2, 3, 4)]
        self.assertEqual(
            told(*ready, best(1), best(2), best(3), best(4))[-4:],
            [[0, 1, 11, 0, 1, 1, 3], [0, 1, 9, 0, 1, 2, 3], [0, 1, 9, 0, 1, 3, 2], [0, 1, 11, 0, 1, 4, 1]],
        )

    def test_none(self):
        self.assertEqual(last(*players(5), queue(1), best(1)), [0, 0])
        self.assertEqual(last(begin(base=0, step=1), *players(5, 6), *queues(1, 2), best(2)), [0, 0])
        self.assertEqual(last(begin(side=2, **WIDE), *players(5, 5, 5), *queues(1, 2, 3), best(1)), [0, 0])
        threes = [begin(side=3, **WIDE), *players(*[5] * 6), queue(1, 2), queue(3, 4), queue(5, 6)]
        self.assertEqual(last(*threes, best(1)), [0, 0])

    def test_one_that_the_other_does_not_take(self):
        ready = [begin(base=0, step=10), *players(0, 60), queue(2), tick(5), queue(1), tick(1)]
        self.assertEqual(told(*ready, best(1), best(2))[-2:], [[0, 0], [0, 0]])

    def test_of_as_even_ones_more_waiting_is_better(self):
        # Five players are too few for a match, so they wait; taking the pair goes ahead, but two singles waited more.
        ready = [begin(side=3, **WIDE), *players(*[5] * 8), queue(1), queue(2, 3), queue(4), queue(5), tick(4)]
        self.assertEqual(last(*ready, queue(6, 7, 8), best(1)), [0, 1, 0, 12, 3, 1, 3, 4, 5])

    def test_of_as_even_ones_less_waiting_is_not_better(self):
        ready = [begin(side=3, **WIDE), *players(*[5] * 8), queue(1), queue(4), queue(5), queue(2, 3), tick(4)]
        self.assertEqual(last(*ready, queue(6, 7, 8), best(1)), [0, 1, 0, 12, 3, 1, 2, 3, 5])
        self.assertEqual(last(*ready, queue(6, 7, 8), best(4)), [0, 1, 0, 8, 2, 4, 1, 5])

    def test_of_as_even_ones_that_waited_as_much_the_first_is_taken(self):
        ready = [begin(side=3, **WIDE), *players(*[5] * 8), queue(1), queue(2, 3), queue(4, 5), tick(4)]
        self.assertEqual(last(*ready, queue(6, 7, 8), best(1)), [0, 1, 0, 8, 2, 1, 2, 4])

    def test_waiting_changes_which_is_best(self):
        # 1 and 2 against the pair come first, till 5 and 6 have waited: they are two parties where the pair is one.
        world = World()
        for call in (begin(side=2, **WIDE), *players(*[5] * 6), *queues(1, 2), queue(3, 4), *queues(5, 6)):
            answer_next(world, Reader(call))
        self.assertEqual(answer_next(world, Reader(best(1))), [0, 1, 0, 0, 2, 1, 2, 3])
        world.tick = 3
        self.assertEqual(answer_next(world, Reader(best(1))), [0, 1, 0, 12, 2, 1, 2, 4, 5])

    def test_as_much_waiting_goes_by_order(self):
        ready = [begin(**WIDE), *players(50, 60, 40), *queues(1, 2, 3)]
        self.assertEqual(last(*ready, best(1)), [0, 1, 10, 0, 1, 1, 2])
        ready = [begin(**WIDE), *players(50, 60, 40), *queues(1, 3, 2)]
        self.assertEqual(last(*ready, best(1)), [0, 1, 10, 0, 1, 1, 2])

    def test_less_uneven_goes_ahead_of_more_waiting(self):
        world = World()
        for call in (begin(side=2, **WIDE), *players(5, 5, 5, 5, 5, 6), *queues(1, 2), queue(3, 4), *queues(5, 6)):
            answer_next(world, Reader(call))
        world.tick = 3
        self.assertEqual(answer_next(world, Reader(best(1))), [0, 1, 0, 9, 2, 1, 2, 3])

    def test_the_order_of_partings(self):
        ready = [begin(side=2, **WIDE), *players(10, 20, 20, 10), *queues(1, 2, 3, 4)]
        self.assertEqual(last(*ready, best(1)), [0, 1, 0, 0, 2, 1, 2, 3, 4])
        self.assertEqual(last(*ready, best(4)), [0, 1, 0, 0, 2, 4, 2, 1, 3])
        ready = [begin(side=2, **WIDE), *players(10, 10, 20, 20), *queues(1, 2, 3, 4)]
        self.assertEqual(last(*ready, best(1)), [0, 1, 0, 0, 2, 1, 3, 2, 4])
        self.assertEqual(last(*ready, best(3)), [0, 1, 0, 0, 2, 3, 1, 2, 4])

    def test_the_order_of_takings(self):
        ready = [begin(side=2, **WIDE), *players(*[5] * 6), *queues(6, 5, 4, 3, 2, 1)]
        self.assertEqual(last(*ready, best(1)), [0, 1, 0, 0, 2, 1, 2, 3, 4])
        self.assertEqual(last(*ready, best(6)), [0, 1, 0, 0, 2, 6, 1, 2, 3])
        self.assertEqual(last(*ready, best(3)), [0, 1, 0, 0, 2, 3, 1, 2, 4])

    def test_its_party_stands_ahead_and_the_others_as_they_wait(self):
        ready = [begin(side=3, **WIDE), *players(1, 2, 4, 8, 16, 32), *queues(1, 2, 3, 4, 5, 6)]
        self.assertEqual(last(*ready, best(5)), [0, 1, 7, 0, 3, 5, 3, 4, 1, 2, 6])
        self.assertEqual(last(*ready, best(6)), [0, 1, 7, 0, 3, 6, 1, 2, 3, 4, 5])

    def test_smaller_parties_fill_a_side(self):
        ready = [begin(side=3, **WIDE), *players(*[1] * 6)]
        self.assertEqual(last(*ready, queue(3, 2, 1), queue(6, 5, 4), best(2)), [0, 1, 0, 0, 1, 2, 1])
        mixed = [*ready, queue(6), queue(5, 4), queue(3, 1), queue(2)]
        self.assertEqual(last(*mixed, best(1)), [0, 1, 0, 0, 2, 1, 2, 3, 4])
        self.assertEqual(last(*mixed, best(2)), [0, 1, 0, 0, 2, 2, 1, 3, 4])
        self.assertEqual(last(*mixed, best(3)), [0, 1, 0, 0, 2, 3, 1, 2, 4])
        self.assertEqual(last(*mixed, best(4)), [0, 1, 0, 0, 2, 4, 2, 1, 3])
        singles = [*ready, queue(6), queue(5), queue(3, 2, 1), queue(4)]
        self.assertEqual(last(*singles, best(4)), [0, 1, 0, 0, 3, 4, 1, 2, 3])
        self.assertEqual(last(*singles, best(3)), [0, 1, 0, 0, 1, 3, 1, 2, 4])

    def test_who_waits_first_is_not_asked_but_the_one_told(self):
        ready = [begin(base=20, step=1), *players(0, 500, 510), *queues(1, 2, 3)]
        given = told(*ready, best(1), best(2), best(3))[-3:]
        self.assertEqual(given, [[0, 0], [0, 1, 10, 0, 1, 2, 3], [0, 1, 10, 0, 1, 3, 2]])

    def test_who_does_not_wait_is_refused(self):
        ready = [begin(**WIDE), *players(*[5] * 5), *queues(1, 2), tick(1), *queues(3, 4, 5), unqueue(6)]
        for number in (0, 1, 2, 3, 6, 7, -1, -FARTHEST, FARTHEST):
            self.assertEqual(told(*ready, best(number), best(4))[-2:], [[-2], [0, 1, 0, 0, 1, 4, 5]])

    def test_it_changes_nothing(self):
        ready = [begin(base=300, step=1), *players(500, 600, 9000), *queues(2, 1, 3)]
        seen = told(*ready, *all_seen([1, 2, 3]), tick(1))[len(ready):]
        for call in (best(2), best(3), best(9)):
            self.assertEqual(told(*ready, call, *all_seen([1, 2, 3]), tick(1))[len(ready) + 1:], seen)

    def test_it_goes_by_the_ratings_and_windows_of_now(self):
        ready = [begin(base=100, step=1), *players(0, 400), *queues(1, 2)]
        self.assertEqual(last(*ready, best(1)), [0, 0])
        self.assertEqual(last(*ready, season(), best(1)), [0, 1, 200, 0, 1, 1, 2])
        world = World()
        for call in ready:
            answer_next(world, Reader(call))
        world.tick = 100
        self.assertEqual(answer_next(world, Reader(best(1))), [0, 1, 400, 200, 1, 1, 2])

    def test_who_played_may_be_found_again(self):
        ready = [begin(**WIDE), *players(500000, 500000), *queues(1, 2), tick(1), result(3, 2), *queues(2, 1)]
        self.assertEqual(told(*ready, best(4), entries())[-2], [0, 1, 32000, 0, 1, 4, 5])


if __name__ == "__main__":
    unittest.main()
