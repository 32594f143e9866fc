"""matches, expect, sums, split, window, state."""

import itertools
import random
import unittest

from tests.helpers import (
    FARTHEST, TOP, all_seen, begin, expect, ladder, last, leave, matches, player, players, queue, queues, remove,
    result, season, split, state, sums, tick, told, unqueue, window,
)

WIDE = {"base": TOP, "step": 1}


def changed(row, place, value):
    return [*row[:place], value, *row[place + 1:]]


class Matches(unittest.TestCase):
    def test_without_matches(self):
        self.assertEqual(told(matches(), *players(1, 1), *queues(1, 2), matches())[-1], [0])
        self.assertEqual(last(matches()), [0])

    def test_a_match_tells_its_sides(self):
        for side in (1, 2, 3):
            first = list(range(side, 0, -1))
            second = list(range(side + 1, 2 * side + 1))
            ready = [begin(side=side, **WIDE), *players(*[5] * 6), queue(*first), queue(*second), tick(1)]
            self.assertEqual(last(*ready, matches()), [0, 3, *first, *second])

    def test_sides_of_several_parties_stand_as_when_the_match_was_made(self):
        ready = [begin(side=3, **WIDE), *players(*[5] * 6), queue(6), queue(5, 4), queue(3, 1), queue(2), tick(1)]
        self.assertEqual(told(*ready, matches())[-2:], [[0, 1, 5, 6, 5, 4, 3, 1, 2], [0, 5, 6, 5, 4, 3, 1, 2]])

    def test_matches_stand_in_the_order_in_which_they_began(self):
        ready = [begin(**WIDE), *players(*[5] * 8), *queues(8, 7, 6, 5), tick(1), *queues(1, 2), tick(1)]
        self.assertEqual(last(*ready, matches()), [0, 5, 8, 7, 6, 6, 5, 9, 1, 2])
        self.assertEqual(last(*ready, result(6, 1), matches()), [0, 5, 8, 7, 9, 1, 2])
        again = [*ready, result(5, 1), *queues(7, 8), tick(1), matches()]
        self.assertEqual(last(*again), [0, 6, 6, 5, 9, 1, 2, 12, 7, 8])

    def test_a_match_that_is_over_is_not_told(self):
        ready = [begin(**WIDE), *players(5, 5), *queues(1, 2), tick(1)]
        self.assertEqual(last(*ready, result(3, 2), matches()), [0])
        self.assertEqual(last(*ready, leave(3, 2), matches()), [0])
        self.assertEqual(last(*ready, begin(), matches()), [0])

    def test_a_refused_result_ends_no_match(self):
        ready = [begin(**WIDE), *players(5, 5), *queues(1, 2), tick(1)]
        self.assertEqual(last(*ready, result(3, 3), leave(3, 9), matches()), [0, 3, 1, 2])


class Expecting(unittest.TestCase):
    def test_a_half(self):
        for value in (0, 1, 7000, TOP):
            self.assertEqual(last(expect([value], [value])), [0, 1, 2, 16000, 0, -16000])

    def test_a_fraction_in_lowest_terms(self):
        self.assertEqual(last(expect([600000], [500000])), [0, 5, 8, 12000, -4000, -20000])
        self.assertEqual(last(expect([500000], [600000])), [0, 3, 8, 20000, 4000, -12000])
        self.assertEqual(last(begin(reach=7), expect([3], [1])), [0, 9, 14, 11429, -4571, -20571])
        self.assertEqual(last(begin(reach=6), expect([1], [3])), [0, 1, 3, 21333, 5333, -10667])

    def test_nothing_and_all(self):
        self.assertEqual(last(expect([0], [400000])), [0, 0, 1, 32000, 16000, 0])
        self.assertEqual(last(expect([400000], [0])), [0, 1, 1, 0, -16000, -32000])

    def test_d_is_held_at_far(self):
        for value in (400000, 400001, 9000000, TOP):
            self.assertEqual(last(expect([value], [0])), [0, 1, 1, 0, -16000, -32000])
        self.assertEqual(last(expect([399999], [0])), [0, 799999, 800000, 0, -16000, -32000])
        self.assertEqual(last(expect([399987], [0])), [0, 799987, 800000, 1, -15999, -31999])

    def test_d_is_held_at_minus_far(self):
        for value in (400000, 400001, 9000000, TOP):
            self.assertEqual(last(expect([0], [value])), [0, 0, 1, 32000, 16000, 0])
        self.assertEqual(last(expect([0], [399999])), [0, 1, 800000, 32000, 16000, 0])
        self.assertEqual(last(expect([0], [399987])), [0, 13, 800000, 31999, 15999, -1])

    def test_what_is_moved_is_held_to_nothing(self):
        fierce = begin(factor=1000000)
        self.assertEqual(last(fierce, expect([0], [0])), [0, 1, 2, 500000, 0, -500000])
        self.assertEqual(last(fierce, expect([TOP], [TOP])), [0, 1, 2, 500000, 0, -500000])
        self.assertEqual(last(fierce, expect([TOP], [0])), [0, 1, 1, 0, -500000, -1000000])
        self.assertEqual(last(fierce, expect([0], [TOP])), [0, 0, 1, 1000000, 500000, 0])

    def test_halves_are_rounded_up_below_0_too(self):
        self.assertEqual(last(begin(factor=1), expect([5], [5])), [0, 1, 2, 1, 0, 0])
        self.assertEqual(last(begin(factor=3), expect([5], [5])), [0, 1, 2, 2, 0, -1])
        self.assertEqual(last(begin(factor=3, reach=1), expect([6], [5])), [0, 1, 1, 0, -1, -3])
        self.assertEqual(last(begin(factor=3, reach=1), expect([5], [6])), [0, 0, 1, 3, 2, 0])

    def test_others_are_rounded_to_the_nearest(self):
        self.assertEqual(last(begin(factor=1, reach=4), expect([52], [50])), [0, 3, 4, 0, 0, -1])
        self.assertEqual(last(begin(factor=5, reach=4), expect([52], [50])), [0, 3, 4, 1, -1, -4])

    def test_a_factor_of_0_moves_nothing(self):
        for first, second in ((0, 0), (TOP, 0), (0, TOP), (300, 200)):
            self.assertEqual(last(begin(factor=0), expect([first], [second]))[3:], [0, 0, 0])

    def test_the_ends_of_the_range(self):
        self.assertEqual(last(begin(reach=1), expect([1], [1])), [0, 1, 2, 16000, 0, -16000])
        self.assertEqual(last(begin(reach=1), expect([1], [0])), [0, 1, 1, 0, -16000, -32000])
        self.assertEqual(last(begin(reach=TOP), expect([TOP], [0])), [0, 1, 1, 0, -16000, -32000])
        self.assertEqual(last(begin(reach=TOP), expect([TOP - 1], [0]))[:3], [0, 2 * TOP - 1, 2 * TOP])

    def test_sides_of_two_and_three_count_together(self):
        self.assertEqual(
            last(begin(side=2), expect([600000, 500000], [400000, 600000])), [0, 9, 16, 14000, -2000, -18000],
        )
        self.assertEqual(
            last(begin(side=3), expect([300000, 0, 0], [200000, 200000, 200000])), [0, 3, 8, 20000, 4000, -12000],
        )
        self.assertEqual(last(begin(side=3, reach=TOP), expect([TOP] * 3, [0] * 3))[:3], [0, 1, 1])
        self.assertEqual(last(begin(side=3, reach=TOP), expect([0] * 3, [TOP] * 3))[:3], [0, 0, 1])

    def test_rows_are_as_long_as_a_side(self):
        for side in (1, 2, 3):
            for first, second in itertools.product((0, 1, 2, 3, 4, 20), repeat=2):
                answer = last(begin(side=side), expect([5] * first, [5] * second))
                wanted = [0, 1, 2, 16000, 0, -16000] if first == second == side else [-1]
                self.assertEqual(answer, wanted, (side, first, second))

    def test_each_rating_is_in_its_range(self):
        for side in (1, 2, 3):
            row = [5] * side
            for place in range(side):
                for value in (0, TOP):
                    self.assertEqual(last(begin(side=side), expect(changed(row, place, value), row))[0], 0)
                    self.assertEqual(last(begin(side=side), expect(row, changed(row, place, value)))[0], 0)
                for wrong in (-1, TOP + 1, -FARTHEST, FARTHEST):
                    self.assertEqual(last(begin(side=side), expect(changed(row, place, wrong), row)), [-1])
                    self.assertEqual(last(begin(side=side), expect(row, changed(row, place, wrong))), [-1])

    def test_rows_are_read_to_their_end_even_if_refused(self):
        given = told(expect([8] * 20, [8] * 20), expect([], [14]), state())
        self.assertEqual(given, [[-1], [-1], [0, 0, 0, 0, 0, 1, 0, 1]])

    def test_it_tells_what_a_result_moves_where_nothing_holds_it(self):
        ready = [begin(side=2, **WIDE), *players(900000, 800000, 700000, 1200000), queue(1, 2), queue(3, 4), tick(1)]
        moves = last(*ready, expect([900000, 800000], [700000, 1200000]))[3:]
        self.assertEqual([last(*ready, result(3, w))[1] for w in (2, 1, 0)], moves)

    def test_it_changes_nothing(self):
        ready = [*players(500, 600, 700), *queues(1, 2), tick(1), queue(3)]
        seen = told(*ready, *all_seen([1, 2, 3]))[len(ready):]
        for call in (expect([500], [600]), expect([], [600]), expect([500], [-1])):
            self.assertEqual(told(*ready, call, *all_seen([1, 2, 3]))[len(ready) + 1:], seen)


class Sums(unittest.TestCase):
    def test_without_players(self):
        self.assertEqual(last(sums()), [0, 0, 0, 0])

    def test_ratings_pool_and_players(self):
        self.assertEqual(last(*players(5, 7, 0), sums()), [0, 12, 0, 3])
        self.assertEqual(last(*players(5, 7, 0), remove(2), sums()), [0, 5, 7, 2])

    def test_24_players_at_the_top(self):
        self.assertEqual(last(*players(*[TOP] * 24), sums()), [0, 24 * TOP, 0, 24])

    def test_a_fine_goes_to_the_pool(self):
        ready = [*players(500000, 500000), *queues(1, 2), tick(1), leave(3, 2), sums()]
        self.assertEqual(last(*ready), [0, 995000, 5000, 2])

    def test_who_waits_and_who_plays_counts(self):
        self.assertEqual(last(*players(5, 5, 5), *queues(1, 2), tick(1), queue(3), sums()), [0, 15, 0, 3])


class Splitting(unittest.TestCase):
    def test_no_ratings(self):
        self.assertEqual(last(split()), [0, 0])

    def test_two_ratings(self):
        self.assertEqual(last(split(5, 5)), [0, 0, 0])
        self.assertEqual(last(split(1, 9)), [0, 8, 0])
        self.assertEqual(last(split(9, 1)), [0, 8, 0])
        self.assertEqual(last(split(0, TOP)), [0, TOP, 0])

    def test_the_halves_are_as_even_as_can_be(self):
        self.assertEqual(last(split(1, 2, 3, 4)), [0, 0, 0, 3])
        self.assertEqual(last(split(4, 1, 3, 2)), [0, 0, 0, 1])
        self.assertEqual(last(split(1, 3, 2, 9)), [0, 5, 0, 3])
        self.assertEqual(last(split(3, 1, 2, 9)), [0, 5, 0, 2])

    def test_the_halves_have_as_many(self):
        # 9 alone would be as much as all the others.
        self.assertEqual(last(split(9, 3, 3, 3)), [0, 6, 0, 1])
        self.assertEqual(last(split(0, 0, 0, TOP)), [0, TOP, 0, 1])

    def test_of_several_as_even_the_first_one_is_told(self):
        self.assertEqual(last(split(5, 5, 5, 5)), [0, 0, 0, 1])
        self.assertEqual(last(split(1, 2, 1, 2)), [0, 0, 0, 1])
        self.assertEqual(last(split(1, 1, 2, 2)), [0, 0, 0, 2])
        self.assertEqual(last(split(*[7] * 6)), [0, 0, 0, 1, 2])
        self.assertEqual(last(split(*[7] * 10)), [0, 0, 0, 1, 2, 3, 4])
        # 0, 1, 4 and 0, 2, 3 are as even, and so are 1, 4, 5 and 2, 3, 5.
        self.assertEqual(last(split(0, 1, 2, 3, 4, 0)), [0, 0, 0, 1, 4])

    def test_the_first_half_has_place_0_even_if_it_is_the_lesser(self):
        self.assertEqual(last(split(0, 1, 1, 1)), [0, 1, 0, 1])
        self.assertEqual(last(split(2, 1, 1, 1)), [0, 1, 0, 1])

    def test_ten_ratings(self):
        self.assertEqual(last(split(*range(10)))[:2], [0, 1])
        self.assertEqual(last(split(TOP, *[0] * 9)), [0, TOP, 0, 1, 2, 3, 4])
        self.assertEqual(last(split(*[0] * 5, *[TOP] * 5)), [0, TOP, 0, 1, 2, 5, 6])

    def test_all_halves_are_gone_through(self):
        dice = random.Random(16)
        for size in (2, 4, 6, 8, 10):
            for most in (1, 3, 20, TOP):
                row = [dice.randint(0, most) for _ in range(size)]
                aparts = {}
                for half in itertools.combinations(range(size), size // 2):
                    aparts[half] = abs(2 * sum(row[place] for place in half) - sum(row))
                least = min(aparts.values())
                wanted = next(half for half in aparts if aparts[half] == least)
                self.assertEqual(last(split(*row)), [0, least, *wanted], row)

    def test_an_odd_number_or_more_than_ten_are_refused(self):
        for size in range(21):
            answer = last(split(*[5] * size))
            self.assertEqual(answer[0], 0 if size % 2 == 0 and size <= 10 else -1, size)

    def test_each_rating_is_in_its_range(self):
        for size in (2, 10):
            for place in range(size):
                for value in (0, TOP):
                    self.assertEqual(last(split(*changed([5] * size, place, value)))[0], 0)
                for wrong in (-1, TOP + 1, -FARTHEST, FARTHEST):
                    self.assertEqual(last(split(*changed([5] * size, place, wrong))), [-1])

    def test_the_rules_do_not_matter(self):
        for side in (1, 2, 3):
            self.assertEqual(last(begin(side=side, **WIDE), split(1, 2, 3, 4)), [0, 0, 0, 3])

    def test_it_changes_nothing(self):
        ready = [*players(500, 600), queue(1)]
        seen = told(*ready, *all_seen([1, 2]))[len(ready):]
        for call in (split(1, 2), split(1), split(1, -2)):
            self.assertEqual(told(*ready, call, *all_seen([1, 2]))[len(ready) + 1:], seen)


class Windows(unittest.TestCase):
    def test_a_window_grows_by_the_step_with_each_tick(self):
        ready = [begin(side=2, base=7, step=3), *players(0, 500, TOP), queue(2, 1)]
        self.assertEqual(last(*ready, window(1)), [0, 7])
        self.assertEqual(last(*ready, tick(1), window(1)), [0, 10])
        self.assertEqual(last(*ready, tick(50), tick(2), window(1)), [0, 163])

    def test_a_window_counts_from_when_its_party_began_to_wait(self):
        ready = [begin(base=0, step=10), *players(0, TOP), queue(1), tick(4), queue(2), tick(2)]
        self.assertEqual(told(*ready, window(1), window(2))[-2:], [[0, 60], [0, 20]])

    def test_the_ends_of_base_and_step(self):
        for base, step, wanted in ((0, 1, 50), (TOP, 1, TOP + 50), (0, 1000000, 50000000), (TOP, 1000000, 60000000)):
            self.assertEqual(last(begin(base=base, step=step), *players(0), queue(1), tick(50), window(1)), [0, wanted])

    def test_a_line_begins_with_its_windows(self):
        self.assertEqual(last(*players(0), queue(1), tick(1), window(1)), [0, 110000])

    def test_a_number_without_a_party_is_refused(self):
        ready = [*players(1, 1, 1, 1), *queues(1, 2), tick(1), *queues(3, 4), unqueue(4)]
        # 1 and 2 have played, 3 is their match, 4 waits no more, 6 is not given yet.
        for number in (0, 1, 2, 3, 4, 6, -1, -FARTHEST, FARTHEST):
            self.assertEqual(told(*ready, window(number), window(5))[-2:], [[-2], [0, 100000]])


class States(unittest.TestCase):
    def test_a_line_s_beginning(self):
        self.assertEqual(last(state()), [0, 0, 0, 0, 0, 1, 0, 1])

    def test_all_of_it(self):
        ready = [
            *players(500000, 500000, 500000, 500000, 9000000), *queues(1, 2), tick(7), leave(3, 1), *queues(1, 2, 3, 5),
            tick(1),
        ]
        self.assertEqual(last(*ready, state()), [0, 8, 5, 2, 1, 9, 5000, 1])
        # The match is over, the pool is given back, those who wait go on waiting.
        self.assertEqual(last(*ready, result(8, 1), season(), state()), [0, 8, 5, 2, 0, 9, 0, 2])

    def test_each_number_by_itself(self):
        self.assertEqual(last(tick(3), tick(4), state()), [0, 7, 0, 0, 0, 1, 0, 1])
        self.assertEqual(last(*players(1, 2, 3), state()), [0, 0, 3, 0, 0, 1, 0, 1])
        self.assertEqual(last(*players(1, 2, 3), *queues(1, 2), state()), [0, 0, 3, 2, 0, 3, 0, 1])
        self.assertEqual(last(*players(1, 2, 3), *queues(1, 2, 3), tick(1), state()), [0, 1, 3, 1, 1, 5, 0, 1])
        self.assertEqual(last(*players(1, 2, 3), *queues(1, 2), unqueue(1), state()), [0, 0, 3, 1, 0, 3, 0, 1])
        self.assertEqual(last(*players(1, 2, 3), remove(3), state()), [0, 0, 2, 0, 0, 1, 3, 1])
        self.assertEqual(last(season(), season(), state()), [0, 0, 0, 0, 0, 1, 0, 3])

    def test_begin_drops_all(self):
        busy = [*players(5, 5, 5, 5), remove(4), season(), *queues(1, 2, 3), tick(1), state(), begin(side=2), state()]
        self.assertEqual(told(*busy)[-3:], [[0, 1, 3, 1, 1, 5, 0, 2], [0], [0, 0, 0, 0, 0, 1, 0, 1]])

    def test_a_refusal_changes_nothing_of_it(self):
        busy = [*players(5, 5, 5), *queues(1, 2), tick(1), queue(3)]
        wanted = last(*busy, state())
        for call in (begin(side=0), player(1, 5), queue(3), unqueue(1), tick(0), result(1, 1), leave(3, 3), season(),
                     remove(1), remove(3), remove(9), window(1), split(1), expect([], [])):
            self.assertEqual(told(*busy, call, state())[-2][0] < 0, True, call)
            self.assertEqual(last(*busy, call, state()), wanted, call)

    def test_24_players_and_12_parties(self):
        ready = [begin(base=0, step=1), *players(*range(0, 2400000, 100000)), *queues(*range(1, 13)), state()]
        self.assertEqual(last(*ready), [0, 0, 24, 12, 0, 13, 0, 1])
        self.assertEqual(last(*ready, ladder())[1:3], [24, 2300000])


if __name__ == "__main__":
    unittest.main()
