"""tick: who may play, the best match, the order of the ways, how matches are made."""

import unittest

from evenmatches.calls import answer_next
from evenmatches.reader import Reader
from evenmatches.world import World
from tests.helpers import (
    FARTHEST, TOP, all_seen, begin, entries, last, players, queue, queues, rating, tick, told, unqueue,
)

WIDE = {"base": TOP, "step": 1}


def made(*calls):
    """What the last call, a tick, tells behind its tick's number."""
    return last(*calls)[2:]


class Ticking(unittest.TestCase):
    def test_ticks_go_by(self):
        self.assertEqual(told(tick(1), tick(50), tick(2)), [[0, 1], [0, 51], [0, 53]])

    def test_what_is_outside_of_1_to_50_is_refused(self):
        for k in (0, 51, -1, -FARTHEST, FARTHEST):
            self.assertEqual(told(tick(3), tick(k), tick(1)), [[0, 3], [-1], [0, 4]])

    def test_a_refused_tick_leaves_all(self):
        ready = [*players(1, 1), *queues(1, 2)]
        seen = told(*ready, *all_seen([1, 2]))[len(ready):]
        self.assertEqual(told(*ready, tick(0), *all_seen([1, 2]))[len(ready):], [[-1], *seen])

    def test_the_last_tick_is_1000000(self):
        # So many ticks don't fit in one list, so the world is set there.
        for before, k, answer in (
            (999999, 1, [0, 1000000]), (999950, 50, [0, 1000000]), (999999, 2, [-5]), (1000000, 1, [-5]),
            (999951, 50, [-5]), (1000000, 51, [-1]), (1000000, 0, [-1]), (999949, 50, [0, 999999]),
        ):
            world = World()
            world.tick = before
            self.assertEqual(answer_next(world, Reader(tick(k))), answer)
            self.assertEqual(world.tick, before if answer[0] < 0 else before + k)

    def test_windows_grow_up_to_the_last_tick(self):
        world = World()
        for call in (begin(base=0, step=1), *players(0, 1999999), *queues(1, 2)):
            answer_next(world, Reader(call))
        world.tick = 999950
        self.assertEqual(answer_next(world, Reader(tick(49))), [0, 999999])
        self.assertEqual(answer_next(world, Reader(tick(2))), [-5])
        self.assertEqual(answer_next(world, Reader(tick(1))), [0, 1000000, 3, 1, 2])


class Windows(unittest.TestCase):
    def test_a_window_met_exactly(self):
        self.assertEqual(made(begin(base=100, step=10), *players(0, 220), *queues(1, 2), tick(1)), [3, 1, 2])

    def test_a_window_missed_by_the_least(self):
        ready = [begin(base=100, step=10), *players(0, 221), *queues(1, 2), tick(1)]
        self.assertEqual(made(*ready), [])
        self.assertEqual(made(*ready, tick(1)), [3, 1, 2])

    def test_a_window_below_its_base_is_not_narrower(self):
        self.assertEqual(made(begin(base=100, step=10), *players(7, 7), *queues(1, 2), tick(1)), [3, 1, 2])

    def test_each_party_has_to_take_the_match(self):
        # The first has a window of 60, the one behind it of 10 only: their means are 15 away.
        ready = [begin(base=0, step=10), *players(0, 30), queue(1), tick(5), queue(2), tick(1)]
        self.assertEqual(made(*ready), [])
        self.assertEqual(told(*ready, entries())[-1], [0, 1, 0, 60, 1, 1, 2, 5, 10, 1, 2])
        self.assertEqual(made(*ready, tick(1)), [3, 1, 2])

    def test_a_mean_of_six_is_not_rounded(self):
        # The one with 5 is 4 and a sixth from the mean of all.
        ready = [begin(side=3, base=3, step=1), *players(0, 0, 0, 0, 0, 5), *queues(*range(1, 7))]
        self.assertEqual(made(*ready, tick(1)), [])
        self.assertEqual(made(*ready, tick(1), tick(1)), [7, 1, 2, 3, 4, 5, 6])
        ready = [begin(side=3, base=3, step=1), *players(0, 0, 0, 0, 0, 6), *queues(*range(1, 7))]
        self.assertEqual(made(*ready, tick(1)), [])
        self.assertEqual(made(*ready, tick(1), tick(1)), [7, 1, 2, 3, 4, 5, 6])

    def test_a_mean_below_the_party_is_not_rounded(self):
        ready = [begin(side=3, base=3, step=1), *players(5, 5, 5, 5, 5, 0), *queues(*range(1, 7))]
        self.assertEqual(made(*ready, tick(1)), [])
        self.assertEqual(made(*ready, tick(1), tick(1)), [7, 1, 2, 3, 4, 5, 6])

    def test_a_party_goes_by_its_own_mean(self):
        # 0 and 1000 are 500 in the mean, as the others are.
        ready = [begin(side=2, base=0, step=1), *players(0, 1000, 500, 500), queue(1, 2)]
        self.assertEqual(made(*ready, queue(3, 4), tick(1)), [3, 1, 2, 3, 4])
        self.assertEqual(made(*ready, queue(3), queue(4), tick(1)), [4, 1, 2, 3, 4])
        alone = [begin(side=2, base=0, step=1), *players(0, 1000, 500, 500), *queues(1, 2, 3, 4), tick(50)]
        self.assertEqual(made(*alone), [])

    def test_a_mean_of_a_party_of_3_is_not_rounded(self):
        # The means of the parties are thirds, 10 and 12 and a third; that of all is 11 and a sixth.
        ready = [begin(side=3, base=0, step=1), *players(10, 10, 10, 12, 12, 13), queue(1, 2, 3), queue(4, 5, 6)]
        self.assertEqual(made(*ready, tick(1)), [])
        self.assertEqual(made(*ready, tick(1), tick(1)), [3, 1, 2, 3, 4, 5, 6])

    def test_a_base_of_0_and_a_step_of_1(self):
        ready = [begin(base=0, step=1), *players(0, 2), *queues(1, 2), tick(1)]
        self.assertEqual(made(*ready), [3, 1, 2])

    def test_the_widest_apart_wait_longest(self):
        ready = [begin(base=4999998, step=1), *players(0, TOP), *queues(1, 2)]
        self.assertEqual(told(*ready, tick(1), tick(1))[-2:], [[0, 1], [0, 2, 3, 1, 2]])


class BestMatches(unittest.TestCase):
    def test_the_least_uneven_is_taken(self):
        ready = [begin(**WIDE), *players(500, 520, 511, 489), *queues(1, 2, 3, 4), tick(1)]
        self.assertEqual(made(*ready), [5, 1, 3, 6, 2, 4])

    def test_the_turn_goes_ahead_of_the_most_even_of_all(self):
        ready = [begin(**WIDE), *players(0, 10, 11), *queues(1, 2, 3), tick(1), entries()]
        self.assertEqual(told(*ready)[-2:], [[0, 1, 4, 1, 2], [0, 3, 0, TOP + 1, 1, 3]])

    def test_who_has_none_is_passed_over(self):
        ready = [begin(base=0, step=1), *players(900, 10, 11), *queues(1, 2, 3), tick(1), entries()]
        self.assertEqual(told(*ready)[-2:], [[0, 1, 4, 2, 3], [0, 1, 0, 1, 1, 1]])

    def test_of_as_even_and_as_waited_ones_the_first_is_taken(self):
        self.assertEqual(made(begin(**WIDE), *players(50, 60, 40), *queues(1, 2, 3), tick(1)), [4, 1, 2])
        self.assertEqual(made(begin(**WIDE), *players(50, 60, 40), *queues(1, 3, 2), tick(1)), [4, 1, 3])

    def test_of_as_even_ones_who_waited_more_are_taken(self):
        ready = [begin(side=2, **WIDE), *players(5, 5, 5, 5, 5, 5), queue(1), queue(2), queue(3, 4), queue(5), queue(6)]
        # 1 and 2 with the party of two go ahead in order; with 5 and 6 they're four parties that waited, not three.
        self.assertEqual(made(*ready, tick(1)), [6, 1, 2, 5, 6])

    def test_of_as_even_ones_who_waited_less_are_not_taken(self):
        ready = [begin(side=2, **WIDE), *players(5, 5, 5, 5, 5, 5), queue(1), queue(2), queue(5), queue(6), queue(3, 4)]
        self.assertEqual(made(*ready, tick(1)), [6, 1, 2, 5, 6])

    def test_ways_that_waited_as_much_go_by_their_order(self):
        # 1 and 2 may have either pair: three parties that waited 1 tick each.
        ready = [begin(side=2, **WIDE), *players(*[5] * 6), queue(1), queue(2), queue(3, 4), queue(5, 6), tick(1)]
        self.assertEqual(made(*ready), [5, 1, 2, 3, 4])
        ready = [begin(side=2, **WIDE), *players(*[5] * 6), queue(1), queue(5, 6), queue(3, 4), queue(2), tick(1)]
        self.assertEqual(made(*ready), [5, 1, 2, 5, 6])

    def test_less_uneven_goes_ahead_of_more_waiting(self):
        ready = [begin(side=2, **WIDE), *players(5, 5, 5, 5, 5, 6), queue(1), queue(2), queue(3, 4), queue(5), queue(6)]
        self.assertEqual(made(*ready, tick(1)), [6, 1, 2, 3, 4])

    def test_waiting_counts_from_when_each_began_to_wait(self):
        ready = [
            begin(side=3, **WIDE), *players(*[5] * 9), queue(1, 2), queue(3), tick(4), queue(4, 5, 6), queue(7, 8),
            queue(9), tick(1),
        ]
        # With 4, 5 and 6 it's 5 + 5 + 1 ticks; with 7, 8 and 9 it's 5 + 5 + 1 + 1.
        self.assertEqual(made(*ready), [6, 1, 2, 3, 7, 8, 9])

    def test_parting_is_the_most_even(self):
        ready = [begin(side=2, **WIDE), *players(10, 20, 30, 40), *queues(1, 2, 3, 4), tick(1)]
        self.assertEqual(made(*ready), [5, 1, 4, 2, 3])

    def test_of_as_even_partings_the_first_is_taken(self):
        ready = [begin(side=2, **WIDE), *players(10, 20, 20, 10), *queues(1, 2, 3, 4), tick(1)]
        self.assertEqual(made(*ready), [5, 1, 2, 3, 4])
        ready = [begin(side=2, **WIDE), *players(10, 10, 20, 20), *queues(1, 2, 3, 4), tick(1)]
        self.assertEqual(made(*ready), [5, 1, 3, 2, 4])

    def test_a_taking_with_the_first_ones_goes_ahead(self):
        ready = [begin(side=2, **WIDE), *players(5, 5, 5, 5, 5), *queues(1, 2, 3, 4, 5), tick(1)]
        self.assertEqual(made(*ready), [6, 1, 2, 3, 4])
        ready = [begin(side=3, **WIDE), *players(*[5] * 7), *queues(7, 6, 5, 4, 3, 2, 1), tick(1)]
        self.assertEqual(made(*ready), [8, 7, 6, 5, 4, 3, 2])


class Sides(unittest.TestCase):
    def test_a_side_of_one(self):
        self.assertEqual(made(begin(side=1, **WIDE), *players(1, 1, 1), *queues(3, 1, 2), tick(1)), [4, 3, 1])

    def test_a_side_of_two_is_filled_by_smaller_parties(self):
        ready = [begin(side=2, **WIDE), *players(1, 1, 1, 1)]
        self.assertEqual(made(*ready, queue(2, 1), queue(4, 3), tick(1)), [3, 2, 1, 4, 3])
        self.assertEqual(made(*ready, queue(2), queue(4, 3), queue(1), tick(1)), [4, 2, 1, 4, 3])
        self.assertEqual(made(*ready, queue(4, 3), queue(2), queue(1), tick(1)), [4, 4, 3, 2, 1])

    def test_a_side_of_three_is_filled_by_smaller_parties(self):
        ready = [begin(side=3, **WIDE), *players(*[1] * 6)]
        self.assertEqual(made(*ready, queue(3, 2, 1), queue(6, 5, 4), tick(1)), [3, 3, 2, 1, 6, 5, 4])
        self.assertEqual(made(*ready, queue(6), queue(5, 4), queue(3, 1), queue(2), tick(1)), [5, 6, 5, 4, 3, 1, 2])
        self.assertEqual(made(*ready, queue(6), queue(5), queue(3, 2, 1), queue(4), tick(1)), [5, 6, 5, 4, 3, 2, 1])

    def test_too_few_players_don_t_play(self):
        self.assertEqual(made(begin(side=2, **WIDE), *players(1, 1, 1), *queues(1, 2, 3), tick(50)), [])
        self.assertEqual(made(begin(side=3, **WIDE), *players(*[1] * 5), *queues(1, 2, 3, 4, 5), tick(50)), [])

    def test_three_parties_of_two_can_t_be_parted_into_sides_of_three(self):
        ready = [begin(side=3, **WIDE), *players(*[1] * 8), queue(1, 2), queue(3, 4), queue(5, 6), tick(50)]
        self.assertEqual(made(*ready), [])
        self.assertEqual(made(*ready, queue(7), tick(1)), [])
        self.assertEqual(made(*ready, queue(7), queue(8), tick(1)), [6, 1, 2, 7, 3, 4, 8])

    def test_parties_that_can_t_be_parted_don_t_hide_those_that_can(self):
        # The pairs would take one another from the first tick on; the threes only later.
        ready = [
            begin(side=3, base=0, step=1), *players(*[1] * 6, *[900] * 3, *[910] * 3), queue(1, 2), queue(3, 4),
            queue(5, 6), queue(7, 8, 9), queue(10, 11, 12),
        ]
        self.assertEqual(last(*ready, tick(4)), [0, 4])
        self.assertEqual(last(*ready, tick(5)), [0, 5, 6, 7, 8, 9, 10, 11, 12])

    def test_twelve_parties_of_two(self):
        ready = [begin(side=2, **WIDE), *players(*[7] * 24)]
        pairs = [queue(number, number + 12) for number in range(1, 13)]
        wanted = []
        for which in range(6):
            wanted += [13 + which, 2 * which + 1, 2 * which + 13, 2 * which + 2, 2 * which + 14]
        self.assertEqual(made(*ready, *pairs, tick(1)), wanted)


class SeveralMatches(unittest.TestCase):
    def test_several_in_one_tick(self):
        ready = [*players(1000000, 5000000, 1000000, 5000000), *queues(1, 2, 3, 4), tick(1), entries(), rating(4)]
        self.assertEqual(told(*ready)[8:], [[0, 1, 5, 1, 3, 6, 2, 4], [0], [0, 5000000, 0, 0, 0, 2]])

    def test_several_ticks_in_one_call(self):
        ready = [begin(base=0, step=1), *players(0, 4, 100, 102), *queues(1, 2, 3, 4), tick(3)]
        self.assertEqual(last(*ready), [0, 3, 5, 3, 4, 6, 1, 2])

    def test_several_ticks_are_as_one_call_each(self):
        ready = [begin(side=2, base=0, step=3), *players(*[n * n * 7 for n in range(12)]), *queues(*range(1, 13))]
        at_once = told(*ready, tick(50))[-1]
        one_by_one = told(*ready, *[tick(1)] * 25, tick(25))[len(ready):]
        singly = []
        for answer in one_by_one:
            singly.extend(answer[2:])
        self.assertEqual(at_once[:2], [0, 50])
        self.assertEqual(at_once[2:], singly)
        self.assertGreater(len(singly), 5)

    def test_an_early_match_is_not_undone_by_a_better_later_one(self):
        # 1 and 2 play at tick 1; at tick 2, 2 would have had 3.
        ready = [begin(base=0, step=5), *players(0, 10, 25), *queues(1, 2, 3), tick(10), entries()]
        self.assertEqual(told(*ready)[-2:], [[0, 10, 4, 1, 2], [0, 3, 0, 50, 1, 3]])

    def test_a_party_gone_does_not_play(self):
        ready = [begin(**WIDE), *players(5, 5, 5), *queues(1, 2, 3), unqueue(2), tick(1)]
        self.assertEqual(made(*ready), [4, 1, 3])


if __name__ == "__main__":
    unittest.main()
