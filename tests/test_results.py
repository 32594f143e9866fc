"""result and leave: what's moved, its limits, games and wins, the fine."""

import unittest

from tests.helpers import (
    FARTHEST, TOP, all_seen, begin, last, leave, players, queue, queues, rating, result, tick, told, unqueue,
)

WIDE = {"base": TOP, "step": 1}


def duel(first, second, **rules):
    """Players 1 and 2 in match 3."""
    return [begin(**WIDE, **rules), *players(first, second), *queues(1, 2), tick(1)]


def teams(first, second, **rules):
    """A match 3 of two parties, players 1, 2 .. against the ones behind them."""
    side = len(first)
    numbers = list(range(1, 2 * side + 1))
    rows = [queue(*numbers[:side]), queue(*numbers[side:])]
    return [begin(side=side, **WIDE, **rules), *players(*first, *second), *rows, tick(1)]


class Moving(unittest.TestCase):
    def moved(self, ready, w):
        answer = last(*ready, result(3, w))
        self.assertEqual(answer[0], 0)
        self.assertEqual(len(answer), 2)
        return answer[1]

    def test_even_ones(self):
        self.assertEqual([self.moved(duel(50000, 50000), w) for w in (0, 1, 2)], [-16000, 0, 16000])

    def test_uneven_ones(self):
        self.assertEqual([self.moved(duel(500000, 600000), w) for w in (0, 1, 2)], [-12000, 4000, 20000])
        self.assertEqual([self.moved(duel(600000, 500000), w) for w in (0, 1, 2)], [-20000, -4000, 12000])

    def test_far_is_the_range_times_the_players_of_a_side(self):
        ready = teams([600000, 500000], [500000, 500000])
        self.assertEqual([self.moved(ready, w) for w in (0, 1, 2)], [-18000, -2000, 14000])
        ready = teams([600000] * 3, [500000] * 3, factor=1000)
        self.assertEqual([self.moved(ready, w) for w in (0, 1, 2)], [-625, -125, 375])

    def test_ratings_of_a_side_count_together(self):
        ready = teams([0, 600000], [300000, 300000], factor=1000)
        self.assertEqual(self.moved(ready, 1), 0)

    def test_d_is_held_at_far(self):
        for d in (400000, 400001, 9000000):
            self.assertEqual([self.moved(duel(500000 + d, 500000), w) for w in (0, 1, 2)], [-32000, -16000, 0])
        self.assertEqual([self.moved(duel(899975, 500000), w) for w in (0, 1, 2)], [-31999, -15999, 1])

    def test_d_is_held_at_minus_far(self):
        for d in (400000, 400001, 9000000):
            self.assertEqual([self.moved(duel(500000, 500000 + d), w) for w in (0, 1, 2)], [0, 16000, 32000])
        self.assertEqual([self.moved(duel(500000, 899975), w) for w in (0, 1, 2)], [-1, 15999, 31999])

    def test_halves_are_rounded_up(self):
        # The factor 1 times what came less half: a half above and below 0.
        self.assertEqual([self.moved(duel(50, 50, factor=1), w) for w in (0, 1, 2)], [0, 0, 1])
        self.assertEqual([self.moved(duel(50, 50, factor=3), w) for w in (0, 1, 2)], [-1, 0, 2])

    def test_less_and_more_than_halves_go_to_the_nearest(self):
        # Quarters: d is half of far.
        self.assertEqual([self.moved(duel(52, 50, factor=1, reach=4), w) for w in (0, 1, 2)], [-1, 0, 0])
        self.assertEqual([self.moved(duel(50, 52, factor=1, reach=4), w) for w in (0, 1, 2)], [0, 0, 1])
        self.assertEqual([self.moved(duel(52, 50, factor=5, reach=4), w) for w in (0, 1, 2)], [-4, -1, 1])

    def test_a_draw_at_a_half(self):
        # d is far, so a draw moves half the factor.
        self.assertEqual(self.moved(duel(51, 50, factor=1, reach=1), 1), 0)
        self.assertEqual(self.moved(duel(51, 50, factor=3, reach=1), 1), -1)
        self.assertEqual(self.moved(duel(50, 51, factor=1, reach=1), 1), 1)
        self.assertEqual(self.moved(duel(50, 51, factor=3, reach=1), 1), 2)

    def test_a_factor_of_0_moves_nothing(self):
        self.assertEqual([self.moved(duel(52, 50, factor=0), w) for w in (0, 1, 2)], [0, 0, 0])

    def test_the_greatest_factor_and_the_ends_of_the_range(self):
        for reach in (1, TOP):
            ready = duel(2000000, 2000000, factor=1000000, reach=reach)
            self.assertEqual([self.moved(ready, w) for w in (0, 1, 2)], [-500000, 0, 500000])


class Limits(unittest.TestCase):
    def ends(self, ready, w, moved, ratings):
        shown = [rating(number) for number in range(1, len(ratings) + 1)]
        given = told(*ready, result(3, w), *shown)[len(ready):]
        self.assertEqual(given[0], [0, moved])
        self.assertEqual([answer[1] for answer in given[1:]], ratings)

    def test_no_more_than_the_second_has(self):
        self.ends(duel(100, 15999), 2, 15999, [16099, 0])
        self.ends(duel(5, 5), 2, 5, [10, 0])
        self.ends(duel(5, 0), 2, 0, [5, 0])

    def test_no_more_than_the_first_has(self):
        self.ends(duel(5, 5), 0, -5, [0, 10])
        self.ends(duel(0, 5), 0, 0, [0, 5])

    def test_the_least_of_the_losers_counts(self):
        self.ends(teams([9000, 8000], [7, 16993]), 2, 7, [9007, 8007, 0, 16986])
        self.ends(teams([16993, 7], [9000, 8000]), 0, -7, [16986, 0, 9007, 8007])
        self.ends(teams([100, 9000, 7000], [6000, 3, 10097]), 2, 3, [103, 9003, 7003, 5997, 0, 10094])

    def test_the_least_of_the_winners_does_not_count(self):
        self.ends(teams([0, 200000], [100000, 100000]), 2, 16000, [16000, 216000, 84000, 84000])
        self.ends(teams([100000, 100000], [200000, 0]), 0, -16000, [84000, 84000, 216000, 16000])

    def test_the_first_does_not_go_above_the_top(self):
        self.ends(duel(TOP - 4, TOP - 9), 2, 4, [TOP, TOP - 13])
        self.ends(duel(TOP, TOP - 9), 2, 0, [TOP, TOP - 9])

    def test_the_second_does_not_go_above_the_top(self):
        self.ends(duel(TOP - 9, TOP - 4), 0, -4, [TOP - 13, TOP])
        self.ends(duel(TOP - 9, TOP), 0, 0, [TOP - 9, TOP])

    def test_the_greatest_of_the_winners_counts(self):
        self.ends(teams([TOP - 6, TOP - 100000], [TOP - 6, TOP - 100000]), 2, 6,
                  [TOP, TOP - 99994, TOP - 12, TOP - 100006])
        self.ends(teams([TOP - 6, TOP - 100000], [TOP - 100000, TOP - 6]), 0, -6,
                  [TOP - 12, TOP - 100006, TOP - 99994, TOP])

    def test_a_draw_is_held_too(self):
        self.ends(duel(0, 200000, factor=1000000), 1, 200000, [200000, 0])
        self.ends(duel(200000, 0, factor=1000000), 1, -200000, [0, 200000])

    def test_both_limits_at_once(self):
        self.ends(teams([TOP - 5, 0], [3, TOP - 8]), 2, 3, [TOP - 2, 3, 0, TOP - 11])
        self.ends(teams([TOP - 3, 2], [5, TOP - 8]), 2, 3, [TOP, 5, 2, TOP - 11])
        self.ends(teams([3, TOP - 8], [TOP - 5, 0]), 0, -3, [0, TOP - 11, TOP - 2, 3])
        self.ends(teams([5, TOP - 8], [TOP - 3, 2]), 0, -3, [2, TOP - 11, TOP, 5])


class Ending(unittest.TestCase):
    def test_games_and_wins(self):
        ready = teams([50, 50], [50, 50])
        shown = [rating(number) for number in (1, 2, 3, 4)]
        for w, first, second in ((2, 1, 0), (1, 0, 0), (0, 0, 1)):
            given = told(*ready, result(3, w), *shown)[-4:]
            self.assertEqual([answer[2:] for answer in given], [
                [1, first, 0, 0], [1, first, 0, 0], [1, second, 0, 0], [1, second, 0, 0],
            ])

    def test_games_add_up(self):
        ready = [*duel(500000, 500000), result(3, 2), *queues(2, 1), tick(1), result(6, 0), rating(1), rating(2)]
        self.assertEqual([answer[2:] for answer in told(*ready)[-2:]], [[2, 2, 0, 0], [2, 0, 0, 0]])

    def test_a_match_ends_once(self):
        self.assertEqual(told(*duel(5, 5), result(3, 1), result(3, 1), leave(3, 1))[-2:], [[-2], [-2]])
        self.assertEqual(told(*duel(5, 5), leave(3, 1), result(3, 1), leave(3, 1))[-2:], [[-2], [-2]])

    def test_one_match_of_several_ends(self):
        ready = [begin(**WIDE), *players(5, 5, 5, 5), *queues(1, 2, 3, 4), tick(1)]
        given = told(*ready, result(6, 1), rating(1), rating(3), result(5, 1), rating(1))[len(ready):]
        self.assertEqual(given, [[0, 0], [0, 5, 0, 0, 0, 2], [0, 5, 1, 0, 0, 0], [0, 0], [0, 5, 1, 0, 0, 0]])

    def test_a_number_without_a_match_is_refused(self):
        ready = [*duel(5, 5), begin(), *players(5, 5, 5), *queues(1, 2), tick(1), queue(3)]
        for number in (0, 1, 2, 4, 5, -1, -FARTHEST, FARTHEST):
            self.assertEqual(last(*ready, result(number, 1)), [-2])
            self.assertEqual(last(*ready, leave(number, 1)), [-2])

    def test_an_end_outside_of_0_to_2_is_refused(self):
        for w in (-1, 3, -FARTHEST, FARTHEST):
            self.assertEqual(told(*duel(5, 5), result(3, w), result(3, 1))[-2:], [[-1], [0, 0]])
            self.assertEqual(last(*duel(5, 5), result(4, w)), [-1])

    def test_refusals_leave_all(self):
        ready = duel(500, 600)
        seen = told(*ready, *all_seen([1, 2]), result(3, 2))[len(ready):]
        for call in (result(3, 3), result(4, 3), result(4, 2), leave(4, 1), leave(3, 3), leave(4, 3), unqueue(3)):
            self.assertEqual(told(*ready, call, *all_seen([1, 2]), result(3, 2))[len(ready) + 1:], seen)


class Leaving(unittest.TestCase):
    def test_a_leaver_of_the_first_side(self):
        given = told(*duel(500000, 500000), leave(3, 1), rating(1), rating(2))[-3:]
        self.assertEqual(given, [[0, -16000, 5000], [0, 479000, 1, 0, 1, 0], [0, 516000, 1, 1, 0, 0]])

    def test_a_leaver_of_the_second_side(self):
        given = told(*duel(500000, 500000), leave(3, 2), rating(1), rating(2))[-3:]
        self.assertEqual(given, [[0, 16000, 5000], [0, 516000, 1, 1, 0, 0], [0, 479000, 1, 0, 1, 0]])

    def test_only_the_leaver_pays(self):
        shown = [rating(number) for number in (1, 2, 3, 4)]
        given = told(*teams([500000, 500000], [500000, 500000], fine=7), leave(3, 4), *shown)[-5:]
        self.assertEqual(given, [
            [0, 16000, 7], [0, 516000, 1, 1, 0, 0], [0, 516000, 1, 1, 0, 0], [0, 484000, 1, 0, 0, 0],
            [0, 483993, 1, 0, 1, 0],
        ])

    def test_who_has_less_than_the_fine_pays_that(self):
        given = told(*duel(16003, 16003), leave(3, 1), rating(1))[-2:]
        self.assertEqual(given, [[0, -16000, 3], [0, 0, 1, 0, 1, 0]])
        given = told(*duel(16003, 16003), leave(3, 2), rating(2))[-2:]
        self.assertEqual(given, [[0, 16000, 3], [0, 0, 1, 0, 1, 0]])

    def test_who_has_nothing_left_pays_nothing(self):
        given = told(*duel(9, 9), leave(3, 2), rating(1), rating(2))[-3:]
        self.assertEqual(given, [[0, 9, 0], [0, 18, 1, 1, 0, 0], [0, 0, 1, 0, 1, 0]])

    def test_who_has_just_the_fine_pays_it(self):
        self.assertEqual(told(*duel(21000, 21000), leave(3, 1), rating(1))[-2:], [[0, -16000, 5000], [0, 0, 1, 0, 1, 0]])

    def test_the_ends_of_the_fine(self):
        self.assertEqual(last(*duel(5000000, 5000000, fine=0), leave(3, 1)), [0, -16000, 0])
        self.assertEqual(last(*duel(5000000, 5000000, fine=1000000), leave(3, 1)), [0, -16000, 1000000])

    def test_who_is_not_in_it_is_refused(self):
        ready = [*duel(5, 5), [1, 3, 5], [1, 4, 5], queue(3)]
        for who in (0, 3, 4, 5, 999, 1000, -1, -FARTHEST, FARTHEST):
            self.assertEqual(told(*ready, leave(3, who), leave(3, 1))[-2:], [[-4], [0, -5, 0]])

    def test_who_plays_elsewhere_is_not_in_it(self):
        ready = [begin(**WIDE), *players(5, 5, 5, 5), *queues(1, 2, 3, 4), tick(1)]
        self.assertEqual(last(*ready, leave(5, 3)), [-4])
        self.assertEqual(last(*ready, leave(6, 3)), [0, -5, 0])

    def test_no_such_match_goes_ahead_of_no_such_player(self):
        self.assertEqual(last(*duel(5, 5), leave(4, 1000)), [-2])

    def test_leaves_add_up(self):
        ready = [*duel(500000, 500000), leave(3, 1), *queues(1, 2), tick(1), leave(6, 1), rating(1)]
        self.assertEqual(last(*ready)[2:], [2, 0, 2, 0])


if __name__ == "__main__":
    unittest.main()
