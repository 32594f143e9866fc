"""season and remove: going halfway to the mean, the pool, the ladder, who's here no more."""

import random
import unittest

from tests.helpers import (
    FARTHEST, TOP, all_seen, begin, entries, judge, ladder, last, leave, player, players, queue, queues, rating, remove,
    result, season, state, sums, tick, told, unqueue, window,
)

WIDE = {"base": TOP, "step": 1}


def with_pool(pool, *ratings):
    """Players 1, 2, 3 .. with these ratings, and so much in the pool; a player has brought at most TOP of it."""
    calls = []
    while pool > 0:
        calls += [player(999, min(pool, TOP)), remove(999)]
        pool -= min(pool, TOP)
    return [*calls, *players(*ratings)]


class SeasonsEnd(unittest.TestCase):
    def ends(self, ready, ratings, pool):
        """The ratings of players 1, 2, 3 .. and the pool behind a season's end."""
        shown = [rating(number) for number in range(1, len(ratings) + 1)]
        given = told(*ready, season(), *shown, sums())[len(ready):]
        self.assertEqual(given[0], [0, 2, pool])
        self.assertEqual([answer[1] for answer in given[1:-1]], ratings)
        self.assertEqual(given[-1], [0, sum(ratings), pool, len(ratings)])

    def test_the_document_s_own_example(self):
        self.ends(players(1, 4), [1, 4], 0)
        self.ends(players(4, 1), [4, 1], 0)

    def test_each_goes_halfway_to_the_mean(self):
        self.ends(players(1000, 2000, 6000), [2000, 2500, 4500], 0)
        self.ends(players(0, 400), [100, 300], 0)

    def test_rounded_down_and_what_is_left_goes_to_the_first_of_the_ladder(self):
        # 4 and a quarter, 4 and three quarters, 5 and three quarters, 7 and a quarter: 2 are left.
        self.ends(players(3, 4, 6, 9), [4, 4, 6, 8], 0)
        # A third of each: 1666666 and two thirds twice, 6666666 and two thirds.
        self.ends(players(0, 0, TOP), [1666667, 1666666, 6666667], 0)

    def test_the_ladder_is_that_from_before(self):
        # Both become 3; the one who had 4 gets what's left, though the other has the lesser number.
        self.ends(players(3, 4), [3, 4], 0)
        self.ends(players(4, 3), [4, 3], 0)

    def test_of_equal_ratings_the_lesser_number_is_first(self):
        ready = [player(900, 1), remove(900), player(30, 5), player(4, 5), player(200, 5)]
        self.assertEqual(last(*ready, season(), ladder()), [0, 4, 6, 30, 5, 200, 5])
        ready = [player(900, 2), remove(900), player(30, 5), player(4, 5), player(200, 5)]
        self.assertEqual(last(*ready, season(), ladder()), [0, 4, 6, 30, 6, 200, 5])

    def test_of_equal_ratings_who_had_played_fewer_games_is_first(self):
        ready = [begin(**WIDE), *players(5, 5, 5), *queues(1, 3), tick(1), result(3, 1), remove(3)]
        # 5 out of the pool: 2 each, and 1 is left.
        self.assertEqual(last(*ready, season(), ladder()), [0, 2, 8, 1, 7])

    def test_at_the_ends(self):
        self.ends(players(0), [0], 0)
        self.ends(players(TOP), [TOP], 0)
        self.ends(players(7), [7], 0)
        self.ends(players(0, 0), [0, 0], 0)
        self.ends(players(TOP, TOP, TOP), [TOP, TOP, TOP], 0)
        self.ends(players(0, TOP), [2500000, 7500000], 0)

    def test_a_pool_that_fits_whole(self):
        # 12 and a half, 17 and a half: 1 is left, and 7 come out of the pool.
        self.ends(with_pool(7, 10, 20), [16, 21], 0)
        self.ends(with_pool(8, 10, 20), [16, 22], 0)
        self.ends(with_pool(TOP, 0), [TOP], 0)

    def test_a_pool_that_fills_all_to_the_top(self):
        self.ends(with_pool(3, TOP - 1, TOP - 2), [TOP, TOP], 0)
        self.ends(with_pool(2 * TOP, 0, 0), [TOP, TOP], 0)

    def test_a_pool_that_does_not_fit(self):
        self.ends(with_pool(10, TOP - 1, TOP - 2), [TOP, TOP], 7)
        self.ends(with_pool(5 * TOP + 5, TOP), [TOP], 5 * TOP + 5)
        self.ends(with_pool(5, TOP, TOP), [TOP, TOP], 5)
        self.ends(with_pool(3 * TOP, 0, 0), [TOP, TOP], TOP)

    def test_a_rating_that_would_be_above_the_top(self):
        # 7500000 and 2500000, and 5000000 more each.
        self.ends(with_pool(TOP, TOP, 0), [TOP, 7500000], 2500000)
        again = [*with_pool(TOP, TOP, 0), season(), season(), ladder()]
        self.assertEqual(told(*again)[-2:], [[0, 3, 625000], [0, 1, TOP, 2, 9375000]])

    def test_just_at_the_top_nothing_is_over(self):
        # 7500000 and 2500000; 2500000 each out of the pool.
        self.ends(with_pool(5000000, TOP, 0), [TOP, 5000000], 0)
        self.ends(with_pool(5000001, TOP, 0), [TOP, 5000000], 1)
        self.ends(with_pool(4999999, TOP, 0), [TOP, 4999999], 0)

    def test_what_is_over_stays_with_what_did_not_come_out(self):
        # There's room for 10000000 of the 10000004; what's over of them goes back.
        self.ends(with_pool(TOP + 4, TOP, 0), [TOP, 7500000], 2500004)

    def test_a_fine_comes_back(self):
        ready = [*players(500000, 500000), *queues(1, 2), tick(1), leave(3, 2)]
        given = told(*ready, sums(), season(), sums())[-3:]
        self.assertEqual(given, [[0, 995000, 5000, 2], [0, 2, 0], [0, 1000000, 0, 2]])
        # 506750 and 488250, and 2500 each.
        self.assertEqual(last(*ready, season(), ladder()), [0, 1, 509250, 2, 490750])

    def test_all_have_played_and_won_no_game(self):
        ready = [*players(500000, 500000), *queues(1, 2), tick(1), leave(3, 2), *queues(1, 2), tick(1), result(6, 1)]
        given = told(*ready, rating(1), rating(2))[-2:]
        self.assertEqual([answer[2:] for answer in given], [[2, 1, 0, 0], [2, 0, 1, 0]])
        given = told(*ready, season(), rating(1), rating(2))[-2:]
        self.assertEqual([answer[2:] for answer in given], [[0, 0, 0, 0], [0, 0, 1, 0]])

    def test_without_players_the_season_alone(self):
        self.assertEqual(told(season(), state()), [[0, 2, 0], [0, 0, 0, 0, 0, 1, 0, 2]])
        self.assertEqual(told(player(1, 50), remove(1), tick(2), season(), state())[-2:],
                         [[0, 2, 50], [0, 2, 0, 0, 0, 1, 50, 2]])

    def test_seasons_count_up_and_begin_starts_over(self):
        given = told(season(), season(), season(), begin(), season())
        self.assertEqual(given, [[0, 2, 0], [0, 3, 0], [0, 4, 0], [0], [0, 2, 0]])

    def test_24_players(self):
        ratings = [number * number * 15000 + number for number in range(24)]
        together = sum(ratings)
        settled = [(value * 24 + together) // 48 for value in ratings]
        left = together - sum(settled)
        self.assertTrue(0 < left < 24)
        wanted = settled[:24 - left] + [value + 1 for value in settled[24 - left:]]
        self.ends(players(*ratings), wanted, 0)
        self.ends(players(*[TOP] * 24), [TOP] * 24, 0)

    def test_nothing_comes_and_nothing_is_lost(self):
        dice = random.Random(14)
        for size in (1, 2, 3, 5, 24):
            for pool in (0, 1, 17, 9999, TOP, 3 * TOP + 1):
                ready = with_pool(pool, *[dice.choice((0, TOP, dice.randrange(TOP))) for _ in range(size)])
                given = told(*ready, sums(), season(), sums(), season(), sums())[len(ready):]
                self.assertEqual({sum(answer[1:3]) for answer in given[::2]}, {sum(given[0][1:3])})

    def test_those_who_wait_go_on_waiting(self):
        ready = [begin(base=100, step=1), *players(0, 398, 9), queue(2), tick(3), queue(1), judge([1], [2])]
        given = told(*ready, season(), entries(), window(1), judge([1], [2]), rating(1), rating(3))[len(ready) - 1:]
        self.assertEqual(given[0], [0, 0, 2, 1])
        self.assertEqual(given[2:4], [[0, 1, 0, 103, 1, 2, 2, 3, 100, 1, 1], [0, 103]])
        # They have become 67 and 267.
        self.assertEqual(given[4], [0, 1, 200, 3])
        self.assertEqual([given[5][5], given[6][5]], [1, 0])

    def test_those_who_wait_play_by_what_their_ratings_have_become(self):
        ready = [begin(base=90, step=10), *players(0, 400), *queues(1, 2)]
        self.assertEqual(last(*ready, tick(1)), [0, 1])
        self.assertEqual(told(*ready, season(), tick(1), result(3, 1))[-2], [0, 1, 3, 1, 2])
        self.assertEqual(last(*ready, season(), ladder()), [0, 2, 300, 1, 100])

    def test_not_while_there_is_a_match(self):
        ready = [begin(**WIDE), *players(5, 80, 5, 9), *queues(1, 2, 3), tick(1)]
        seen = told(*ready, *all_seen([1, 2, 3, 4]))[len(ready):]
        self.assertEqual(told(*ready, season(), *all_seen([1, 2, 3, 4]))[len(ready):], [[-3], *seen])
        self.assertEqual(told(*ready, season(), result(4, 1), season())[-3:], [[-3], [0, 0], [0, 2, 0]])
        self.assertEqual(told(*ready, season(), leave(4, 1), season())[-3][0], -3)
        self.assertEqual(last(*ready, leave(4, 1), season())[:2], [0, 2])

    def test_not_while_there_is_one_match_of_several(self):
        ready = [begin(**WIDE), *players(5, 5, 5, 5), *queues(1, 2, 3, 4), tick(1), result(5, 1)]
        self.assertEqual(told(*ready, season(), result(6, 1), season())[-3:], [[-3], [0, 0], [0, 2, 0]])


class Removing(unittest.TestCase):
    def test_the_rating_goes_to_the_pool(self):
        given = told(*players(70, 8), remove(1), sums(), ladder(), rating(1), state())[2:]
        self.assertEqual(given, [[0, 70], [0, 8, 70, 1], [0, 2, 8], [-2], [0, 0, 1, 0, 0, 1, 70, 1]])

    def test_it_adds_to_what_is_there(self):
        self.assertEqual(told(*players(70, 8, 5), remove(1), remove(3), sums())[-3:], [[0, 70], [0, 5], [0, 8, 75, 1]])
        fined = [*players(500000, 500000), *queues(1, 2), tick(1), leave(3, 1), remove(1), sums()]
        self.assertEqual(told(*fined)[-2:], [[0, 479000], [0, 516000, 484000, 1]])

    def test_ratings_at_the_ends(self):
        self.assertEqual(told(*players(0, TOP), remove(1), remove(2), sums())[2:], [[0, 0], [0, TOP], [0, 0, TOP, 0]])

    def test_it_comes_back_at_a_season_s_end(self):
        given = told(*players(70, 8, 4), remove(1), season(), sums(), ladder())[3:]
        # 7 and 5, and 70 out of the pool: 35 each.
        self.assertEqual(given, [[0, 70], [0, 2, 0], [0, 82, 0, 2], [0, 2, 42, 3, 40]])

    def test_who_is_not_there_is_refused(self):
        ready = players(5, 5)
        for number in (0, 3, 999, 1000, -1, -FARTHEST, FARTHEST):
            self.assertEqual(told(*ready, remove(number), sums())[-2:], [[-2], [0, 10, 0, 2]])
        self.assertEqual(told(*ready, remove(1), remove(1), sums())[-2:], [[-2], [0, 5, 5, 1]])
        self.assertEqual(last(remove(1)), [-2])

    def test_who_waits_is_refused(self):
        ready = [begin(side=2), *players(5, 6, 7), queue(2, 1)]
        seen = told(*ready, *all_seen([1, 2, 3]))[len(ready):]
        for number in (1, 2):
            self.assertEqual(told(*ready, remove(number), *all_seen([1, 2, 3]))[len(ready):], [[-3], *seen])
        self.assertEqual(last(*ready, remove(3)), [0, 7])
        self.assertEqual(last(*ready, unqueue(1), remove(1)), [0, 5])

    def test_who_plays_is_refused(self):
        ready = [begin(side=2, **WIDE), *players(*[5] * 5), queue(1, 2), queue(3, 4), tick(1)]
        seen = told(*ready, *all_seen([1, 2, 3, 4, 5]))[len(ready):]
        for number in (1, 2, 3, 4):
            self.assertEqual(told(*ready, remove(number), *all_seen([1, 2, 3, 4, 5]))[len(ready):], [[-3], *seen])
        self.assertEqual(last(*ready, remove(5)), [0, 5])
        self.assertEqual(last(*ready, result(3, 2), remove(1)), [0, 10])
        self.assertEqual(last(*ready, leave(3, 4), remove(4)), [0, 0])

    def test_the_number_is_free_again(self):
        ready = [*players(500000, 500000), *queues(1, 2), tick(1), leave(3, 1), remove(1)]
        given = told(*ready, queue(1), player(1, 7), rating(1), queue(1), sums())[len(ready):]
        self.assertEqual(given, [[-2], [0, 2], [0, 7, 0, 0, 0, 0], [0, 4], [0, 516007, 484000, 2]])

    def test_there_is_a_place_again(self):
        full = players(*[5] * 24)
        given = told(*full, player(25, 5), remove(3), player(25, 5), player(3, 5))[24:]
        self.assertEqual(given, [[-5], [0, 5], [0, 24], [-5]])


if __name__ == "__main__":
    unittest.main()
