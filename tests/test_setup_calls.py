"""begin, player, queue, unqueue, rating, ladder, entries."""

import unittest

from tests.helpers import (
    FARTHEST, TOP, all_seen, begin, entries, ladder, last, leave, player, players, queue, queues, rating, result,
    tick, told, unqueue,
)

LEAST_RULES = {"side": 1, "base": 0, "step": 1, "factor": 0, "reach": 1, "fine": 0}
MOST_RULES = {"side": 3, "base": TOP, "step": 1000000, "factor": 1000000, "reach": TOP, "fine": 1000000}


class Beginning(unittest.TestCase):
    def test_a_line_begins_empty(self):
        self.assertEqual(told(ladder(), entries(), rating(1)), [[0], [0], [-2]])

    def test_a_line_begins_with_sides_of_one(self):
        self.assertEqual(told(*players(0, 0), queue(1, 2), queue(1))[2:], [[-1], [0, 1]])

    def test_a_line_begins_with_its_windows(self):
        self.assertEqual(
            told(*players(0), queue(1), entries(), tick(3), entries())[2:],
            [[0, 1, 0, 100000, 1, 1], [0, 3], [0, 1, 0, 130000, 1, 1]],
        )

    def test_a_line_begins_with_its_factor_range_and_fine(self):
        calls = [*players(1000000, 1100000), *queues(1, 2), tick(1), leave(3, 1), rating(1)]
        # 32000 times (0 less 300000) divided by 800000 is -12000.
        self.assertEqual(told(*calls)[4:], [[0, 1, 3, 1, 2], [0, -12000, 5000], [0, 983000, 1, 0, 1, 0]])

    def test_a_line_begins_with_just_this_factor(self):
        ready = [*players(1000000, 1000000), *queues(1, 2), tick(1)]
        self.assertEqual([last(*ready, result(3, w)) for w in (0, 2)], [[0, -16000], [0, 16000]])

    def test_a_line_begins_with_just_this_range(self):
        # A draw moves a 25th of how far they are apart: 15999 and 12 or 13 of 25.
        for apart, moved in ((399987, 15999), (399988, 16000)):
            ready = [*players(1000000, 1000000 + apart), *queues(1, 2), tick(10)]
            self.assertEqual(last(*ready, result(3, 1)), [0, moved])

    def test_begin_answers_0(self):
        self.assertEqual(last(begin()), [0])

    def test_begin_takes_each_end_of_each_range(self):
        for name in LEAST_RULES:
            self.assertEqual(last(begin(**{name: LEAST_RULES[name]})), [0], name)
            self.assertEqual(last(begin(**{name: MOST_RULES[name]})), [0], name)
        self.assertEqual(told(begin(**LEAST_RULES), begin(**MOST_RULES)), [[0], [0]])

    def test_begin_refuses_what_is_outside_of_each_range(self):
        for name in LEAST_RULES:
            for wrong in (LEAST_RULES[name] - 1, MOST_RULES[name] + 1, -FARTHEST, FARTHEST):
                self.assertEqual(last(begin(**{name: wrong})), [-1], (name, wrong))

    def test_begin_drops_all(self):
        busy = [*players(5000, 5000, 5000), *queues(1, 2, 3), tick(2)]
        calls = [*busy, begin(), ladder(), entries(), rating(1), result(4, 1), tick(1), player(1, 7), queue(1)]
        self.assertEqual(
            told(*calls)[len(busy):],
            [[0], [0], [0], [-2], [-2], [0, 1], [0, 1], [0, 1]],
        )

    def test_begin_drops_the_games_played(self):
        busy = [*players(5000, 5000), *queues(1, 2), tick(1), leave(3, 1)]
        self.assertEqual(last(*busy, begin(), player(1, 9), rating(1)), [0, 9, 0, 0, 0, 0])

    def test_begin_sets_the_side_and_the_windows(self):
        calls = [begin(side=3, base=7, step=2), *players(0, 0, 0), queue(3, 1, 2), tick(2), entries()]
        self.assertEqual(last(*calls), [0, 1, 0, 11, 3, 3, 1, 2])

    def test_a_refused_begin_leaves_all(self):
        busy = [begin(side=2, base=3, step=5), *players(9, 8, 7, 6), queue(2, 1), tick(1)]
        seen = told(*busy, *all_seen([1, 2, 3, 4]))[len(busy):]
        again = told(*busy, begin(side=4), *all_seen([1, 2, 3, 4]), queue(4, 3), tick(1))[len(busy):]
        self.assertEqual(again, [[-1], *seen, [0, 2], [0, 2, 3, 2, 1, 4, 3]])


class Players(unittest.TestCase):
    def test_player_answers_how_many_there_are(self):
        self.assertEqual(told(player(7, 5), player(3, 6), player(5, 5)), [[0, 1], [0, 2], [0, 3]])

    def test_player_takes_each_end_of_its_ranges(self):
        calls = [player(1, 0), player(999, TOP), rating(1), rating(999)]
        self.assertEqual(told(*calls), [[0, 1], [0, 2], [0, 0, 0, 0, 0, 0], [0, TOP, 0, 0, 0, 0]])

    def test_player_refuses_what_is_outside_of_its_ranges(self):
        for number in (0, -1, 1000, -FARTHEST, FARTHEST):
            self.assertEqual(told(player(number, 5), ladder()), [[-1], [0]])
        for value in (-1, TOP + 1, -FARTHEST, FARTHEST):
            self.assertEqual(told(player(5, value), ladder()), [[-1], [0]])

    def test_a_number_is_given_once(self):
        self.assertEqual(told(player(5, 1), player(5, 2), rating(5))[1:], [[-3], [0, 1, 0, 0, 0, 0]])

    def test_a_bad_rating_comes_ahead_of_a_number_given(self):
        self.assertEqual(last(player(5, 1), player(5, -1)), [-1])

    def test_there_is_place_for_24(self):
        full = players(*range(24))
        given = told(*full, player(25, 0), player(24, 0), player(1000, 0), player(24, -1), ladder())
        self.assertEqual(given[23], [0, 24])
        self.assertEqual(given[24:28], [[-5], [-3], [-1], [-1]])
        self.assertEqual(len(given[28]), 1 + 2 * 24)


class Queueing(unittest.TestCase):
    def test_parties_are_numbered_as_they_come(self):
        self.assertEqual(told(*players(1, 2, 3), *queues(3, 1, 2))[3:], [[0, 1], [0, 2], [0, 3]])

    def test_parties_and_matches_share_their_numbers(self):
        calls = [*players(1, 1, 1, 1), *queues(1, 2), tick(1), *queues(3, 4), tick(1)]
        self.assertEqual(told(*calls)[4:], [[0, 1], [0, 2], [0, 1, 3, 1, 2], [0, 4], [0, 5], [0, 2, 6, 3, 4]])

    def test_numbers_are_not_given_again(self):
        self.assertEqual(last(*players(1), queue(1), unqueue(1), queue(1)), [0, 2])

    def test_a_refusal_uses_no_number(self):
        self.assertEqual(last(*players(1, 2), queue(1), queue(1), queue(3), queue(2)), [0, 2])

    def test_a_row_has_from_1_to_as_many_players_as_a_side(self):
        for side in (1, 2, 3):
            ready = [begin(side=side), *players(*[0] * 20)]
            for size in range(21):
                wanted = [0, 1] if 1 <= size <= side else [-1]
                self.assertEqual(last(*ready, queue(*range(1, size + 1))), wanted, (side, size))

    def test_a_row_holds_numbers_from_1_to_999(self):
        ready = [begin(side=2), player(1, 0), player(999, 0)]
        self.assertEqual(last(*ready, queue(999, 1)), [0, 1])
        for wrong in (0, -1, 1000, -FARTHEST, FARTHEST):
            self.assertEqual(last(*ready, queue(wrong)), [-1])
            self.assertEqual(last(*ready, queue(1, wrong)), [-1])

    def test_a_row_names_nobody_twice(self):
        ready = [begin(side=3), *players(0, 0)]
        self.assertEqual(last(*ready, queue(1, 1)), [-1])
        self.assertEqual(last(*ready, queue(1, 2, 1)), [-1])
        self.assertEqual(last(*ready, queue(5, 5)), [-1])

    def test_all_must_be_there(self):
        ready = [begin(side=3), *players(0, 0)]
        for row in ([3], [1, 3], [3, 1], [1, 2, 999]):
            self.assertEqual(last(*ready, queue(*row)), [-2])

    def test_none_may_wait(self):
        ready = [begin(side=2), *players(0, 0, 0, 0), queue(1, 2)]
        for row in ([1], [2], [3, 2], [1, 3], [1, 2]):
            self.assertEqual(last(*ready, queue(*row)), [-3])
        self.assertEqual(last(*ready, queue(3)), [0, 2])

    def test_none_may_play(self):
        ready = [begin(side=2), *players(0, 0, 0, 0, 0), queue(1, 2), queue(3, 4), tick(1)]
        for row in ([1], [2], [3], [4], [5, 4], [1, 5]):
            self.assertEqual(last(*ready, queue(*row)), [-3])
        self.assertEqual(last(*ready, queue(5)), [0, 4])
        self.assertEqual(last(*ready, result(3, 1), queue(4, 1)), [0, 4])

    def test_there_is_place_for_12_parties(self):
        full = [begin(base=0, step=1), *players(*range(0, 1300000, 100000)), *queues(*range(1, 13))]
        self.assertEqual(last(*full), [0, 12])
        self.assertEqual(last(*full, queue(13)), [-5])
        self.assertEqual(last(*full, queue(13), entries()), last(*full, entries()))
        self.assertEqual(last(*full, unqueue(4), queue(13)), [0, 13])

    def test_the_refusal_nearest_to_0_is_answered(self):
        full = [begin(side=2, base=0, step=1), *players(*range(0, 1300000, 100000)), *queues(*range(1, 13))]
        self.assertEqual(last(*full, queue(13)), [-5])
        self.assertEqual(last(*full, queue(12)), [-3])
        self.assertEqual(last(*full, queue(13, 12)), [-3])
        self.assertEqual(last(*full, queue(14)), [-2])
        self.assertEqual(last(*full, queue(12, 14)), [-2])
        self.assertEqual(last(*full, queue(14, 1000)), [-1])
        self.assertEqual(last(*full, queue(12, 12)), [-1])
        self.assertEqual(last(*full, queue(12, 13, 14)), [-1])
        self.assertEqual(last(*full, queue()), [-1])

    def test_a_refused_queue_leaves_all(self):
        ready = [begin(side=2), *players(1, 2, 3), queue(1, 2), tick(1)]
        seen = told(*ready, *all_seen([1, 2, 3]))[len(ready):]
        for row, refusal in (([], -1), ([3, 3], -1), ([3, 4], -2), ([3, 1], -3)):
            again = told(*ready, queue(*row), *all_seen([1, 2, 3]), queue(3))[len(ready):]
            self.assertEqual(again, [[refusal], *seen, [0, 2]])

    def test_queueing_makes_no_match(self):
        self.assertEqual(last(*players(1, 1), *queues(1, 2), entries()), [0, 1, 0, 100000, 1, 1, 2, 0, 100000, 1, 2])


class Unqueueing(unittest.TestCase):
    def test_a_party_waits_no_more(self):
        calls = [*players(1, 1), *queues(1, 2), unqueue(1), entries(), rating(1), tick(1), queue(1)]
        self.assertEqual(
            told(*calls)[4:],
            [[0], [0, 2, 0, 100000, 1, 2], [0, 1, 0, 0, 0, 0], [0, 1], [0, 3]],
        )

    def test_a_number_without_a_party_is_refused(self):
        ready = [*players(1, 1, 1), *queues(1, 2), tick(1), queue(3)]
        # 1 and 2 have played, 3 is their match.
        for number in (0, -1, 1, 2, 3, 5, -FARTHEST, FARTHEST):
            self.assertEqual(told(*ready, unqueue(number), entries())[-2:], [[-2], [0, 4, 1, 100000, 1, 3]])
        self.assertEqual(told(*ready, unqueue(4), unqueue(4))[-2:], [[0], [-2]])

    def test_who_queues_again_waits_from_then_and_behind(self):
        calls = [begin(base=0, step=1), *players(0, 900), *queues(1, 2), tick(2), unqueue(1), queue(1), tick(1), entries()]
        self.assertEqual(last(*calls), [0, 2, 0, 3, 1, 2, 3, 2, 1, 1, 1])


class Showing(unittest.TestCase):
    def test_rating_tells_where_a_player_is(self):
        ready = [*players(1, 1, 1), *queues(1, 2), tick(1), queue(3), player(4, 8)]
        self.assertEqual(
            told(*ready, rating(1), rating(2), rating(3), rating(4))[len(ready):],
            [[0, 1, 0, 0, 0, 2], [0, 1, 0, 0, 0, 2], [0, 1, 0, 0, 0, 1], [0, 8, 0, 0, 0, 0]],
        )

    def test_rating_refuses_who_is_not_there(self):
        for number in (0, 2, -1, 999, 1000, -FARTHEST, FARTHEST):
            self.assertEqual(last(*players(1), rating(number)), [-2])

    def test_the_ladder_goes_by_rating(self):
        self.assertEqual(last(player(1, 5), player(2, 9), player(3, 7), ladder()), [0, 2, 9, 3, 7, 1, 5])

    def test_of_equal_ratings_who_has_played_fewer_games_comes_first(self):
        draw = [*players(50, 50), player(9, 50), *queues(1, 2), tick(1), result(3, 1)]
        self.assertEqual(last(*draw, ladder()), [0, 9, 50, 1, 50, 2, 50])

    def test_of_equal_games_the_lesser_number_comes_first(self):
        self.assertEqual(last(player(30, 5), player(4, 5), player(200, 5), ladder()), [0, 4, 5, 30, 5, 200, 5])

    def test_entries_tell_parties_in_the_order_in_which_they_wait(self):
        calls = [
            begin(side=3, base=10, step=3), *players(0, 100000, 5000000, 70), queue(2, 1), tick(2), queue(4), tick(1),
            entries(),
        ]
        self.assertEqual(last(*calls), [0, 1, 0, 19, 2, 2, 1, 2, 2, 13, 1, 4])


if __name__ == "__main__":
    unittest.main()
