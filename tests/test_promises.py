"""What holds of every line: sums, what's left behind a tick, the list handed in, its length, and the model."""

import random
import unittest

from evenmatches.calls import answer_next
from evenmatches.players import answers
from evenmatches.reader import Reader
from evenmatches.world import World, ratings_of
from tests.helpers import (
    FARTHEST, TOP, begin, entries, ladder, leave, player, players, queue, queues, rating, result, taken_apart, tick,
    told, unqueue,
)
from tests.model import Model


def any_rating(dice):
    near = 1000000 + dice.randrange(-300, 300)
    return dice.choice((near, near, near, dice.randrange(TOP + 1), 0, TOP, TOP - dice.randrange(50), dice.randrange(50)))


def any_rules(dice):
    return begin(
        side=dice.choice((1, 2, 2, 3)),
        base=dice.choice((0, 20, 100, 100000, TOP)),
        step=dice.choice((1, 7, 30, 10000, 1000000)),
        factor=dice.choice((0, 1, 7, 32000, 1000000)),
        reach=dice.choice((1, 30, 400000, TOP)),
        fine=dice.choice((0, 10, 5000, 1000000)),
    )


def any_wrong(dice):
    """Calls that are mostly refused."""
    odd = dice.choice((-FARTHEST, -1, 0, 4, 51, 1000, TOP + 1, FARTHEST))
    return dice.choice((
        begin(side=odd), begin(base=odd), begin(step=odd), begin(fine=odd), player(odd, 5), player(5, odd), queue(),
        queue(odd), queue(3, 3), queue(1, 2, 3, 4), unqueue(odd), result(odd, 1), result(1, odd), leave(odd, 1),
        leave(dice.randrange(60), odd), rating(odd), tick(51), tick(0), tick(-1),
    ))


def one_of(dice, known):
    """Mostly a number of those that are there."""
    if known and dice.randrange(8) > 0:
        return dice.choice(sorted(known))
    return dice.randrange(1, 60)


def any_queue(dice, model):
    free = [number for number in sorted(model.people) if model.whereabouts(number) == 0]
    if not free or dice.randrange(10) == 0:
        free = list(range(1, 26))
    return queue(*dice.sample(free, min(len(free), dice.randint(1, model.side))))


def any_leave(dice, model):
    match = one_of(dice, model.matches)
    sides = model.matches.get(match, [[], []])
    return leave(match, one_of(dice, sides[0] + sides[1]))


def any_call(dice, model):
    kind = dice.randrange(20)
    if kind == 0 or len(model.people) < dice.randrange(8):
        return player(dice.randrange(1, 26), any_rating(dice))
    if kind < 9:
        return any_queue(dice, model)
    if kind == 9:
        return unqueue(one_of(dice, [party["number"] for party in model.waiting]))
    if kind < 13:
        return result(one_of(dice, model.matches), dice.randrange(3))
    if kind < 16:
        return any_leave(dice, model)
    return dice.choice((ladder(), entries(), rating(one_of(dice, model.people)), any_wrong(dice)))


def any_line(seed, people, size):
    """A list of calls, at most 30 of them ticks; what the document asks as answers; the model behind them."""
    dice = random.Random(seed)
    model = Model()
    calls = [any_rules(dice)] + players(*[any_rating(dice) for _ in range(people)])
    wanted = [model.told(call) for call in calls]
    ticks = 0
    while len(calls) < size:
        call = any_call(dice, model)
        if ticks < 30 and dice.randrange(6) == 0:
            ticks += 1
            call = tick(dice.choice((1, 1, 1, 2, 2, 3, 5, 50)))
        calls.append(call)
        wanted.append(model.told(call))
    return [number for call in calls for number in call], wanted, model


class AgainstTheModel(unittest.TestCase):
    def held(self, seed, people, size):
        line, wanted, model = any_line(seed, people, size)
        self.assertEqual(taken_apart(answers(line)), wanted, seed)

    def test_short_lines(self):
        for seed in range(300):
            self.held(seed, 1 + seed % 6, 50)

    def test_longer_lines(self):
        for seed in range(1000, 1060):
            self.held(seed, 7 + seed % 3, 120)

    def test_behind_a_tick_no_two_sides_are_left_that_may_play(self):
        for seed in range(2000, 2060):
            line, wanted, model = any_line(seed, 8, 50)
            wanted.append(model.told(tick(1)))
            self.assertEqual(taken_apart(answers(line + tick(1))), wanted, seed)
            self.assertFalse(model.any_may_play())


class Sums(unittest.TestCase):
    def test_ratings_and_pool_change_by_new_players_and_begin_only(self):
        for seed in range(3000, 3060):
            line = any_line(seed, 8, 100)[0]
            world = World()
            reader = Reader(line)
            total = 0
            while reader.has_more():
                call = line[reader.place:reader.place + 3]
                answer = answer_next(world, reader)
                if answer[0] == 0 and call[0] == 0:
                    total = 0
                if answer[0] == 0 and call[0] == 1:
                    total += call[2]
                self.assertEqual(sum(ratings_of(world.players.values())) + world.pool, total)
                for value in ratings_of(world.players.values()):
                    self.assertTrue(0 <= value <= TOP)

    def test_the_ladder_and_what_was_paid_stay_the_same_together(self):
        ready = [
            begin(side=2, base=TOP, step=1), *players(5, 9000, 700000, TOP), queue(1, 4), queue(2, 3), ladder(), tick(1),
            ladder(), result(3, 2), ladder(), queue(4, 1), queue(3, 2), tick(1), leave(6, 4), ladder(),
        ]
        given = told(*ready)
        sums = [sum(given[place][2::2]) for place in (7, 9, 11)]
        self.assertEqual(sums, [10709005 for _ in sums])
        self.assertEqual(given[15][2], 5000)
        self.assertEqual(sum(given[16][2::2]) + 5000, 10709005)

    def test_what_is_paid_goes_to_the_pool(self):
        world = World()
        for call in (*players(60000, 60000), *queues(1, 2), tick(1), leave(3, 2), *queues(1, 2), tick(1), leave(6, 2)):
            answer_next(world, Reader(call))
        self.assertEqual(world.pool, 10000)
        answer_next(world, Reader(begin()))
        self.assertEqual((world.pool, world.season, world.tick, world.upcoming), (0, 1, 0, 1))


class HandedIn(unittest.TestCase):
    def test_the_list_stays_as_it_was(self):
        for seed in range(20):
            line = any_line(seed, 6, 60)[0]
            copy = list(line)
            answers(line)
            self.assertEqual(line, copy)

    def test_the_list_is_not_written_to_for_a_while_either(self):
        class Guarded(list):
            def refuse(self, *told):
                raise AssertionError("the list was written to")

            append = extend = insert = pop = remove = clear = reverse = sort = refuse
            __setitem__ = __delitem__ = __iadd__ = __imul__ = refuse

        line = any_line(7, 6, 60)[0]
        self.assertEqual(answers(Guarded(line)), answers(line))

    def test_two_goes_give_the_same(self):
        line = any_line(5, 6, 80)[0]
        other = any_line(6, 6, 80)[0]
        first = answers(line)
        answers(other)
        self.assertEqual(answers(line), first)

    def test_a_change_of_an_answer_changes_no_later_one(self):
        first = answers([8])
        first.append(5)
        self.assertEqual(answers([8]), [1, 0])

    def test_answers_are_whole_numbers(self):
        given = answers(any_line(11, 8, 100)[0])
        self.assertIs(type(given), list)
        self.assertEqual([value for value in given if type(value) is not int], [])

    def test_each_answer_has_its_size_ahead(self):
        line = [1, 5, 70, 1, 5, 70, 8, 9, 7, 5, 4, 2]
        self.assertEqual(answers(line), [2, 0, 1, 1, -3, 3, 0, 5, 70, 1, 0, 6, 0, 70, 0, 0, 0, 0, 2, 0, 2])

    def test_rows_are_read_to_their_end_even_if_refused(self):
        for size in (0, 1, 4, 20):
            self.assertEqual(answers([2, size] + [8] * size + [8]), [1, -1 if size != 1 else -2, 1, 0])


class LongLines(unittest.TestCase):
    def test_200_calls_30_of_them_ticks(self):
        line = list(begin(side=3, base=0, step=100000))
        for number in range(1, 25):
            line += player(number, number * 400000)
        for number in range(1, 13):
            line += queue(number)
        calls = 1 + 24 + 12
        for turn in range(30):
            line += tick(50) + queue(1 + turn % 24, 1 + (turn + 7) % 24) + ladder() + entries() + result(13 + turn, 2)
            calls += 5
        line += rating(1) * (200 - calls)
        given = taken_apart(answers(line))
        self.assertEqual(len(given), 200)
        ticks = [given[37 + 5 * turn] for turn in range(30)]
        self.assertEqual([answer[1] for answer in ticks], [50 * (turn + 1) for turn in range(30)])
        self.assertGreater(sum(len(answer) - 2 for answer in ticks), 0)

    def test_200_calls_that_wait_in_vain(self):
        line = list(begin(side=3, base=0, step=1))
        for number in range(1, 13):
            line += player(number, number * 800000) + queue(number)
        line += tick(50) * 30 + entries() * 145
        given = taken_apart(answers(line))
        self.assertEqual(len(given), 200)
        self.assertEqual(given[25:55], [[0, 50 * (turn + 1)] for turn in range(30)])
        self.assertEqual(len(given[-1]), 1 + 12 * 5)

    def test_200_calls_with_many_matches(self):
        dice = random.Random(99)
        line = list(begin(side=3, base=TOP, step=1))
        for number in range(1, 25):
            line += player(number, dice.randrange(TOP))
        calls = 25
        upcoming = 1
        for turn in range(11):
            for number in dice.sample(range(1, 25), 12):
                line += queue(number)
            line += tick(1) + result(upcoming + 12, turn % 3) + result(upcoming + 13, 2)
            upcoming += 14
            calls += 15
        line += ladder() * (200 - calls)
        given = taken_apart(answers(line))
        self.assertEqual(len(given), 200)
        self.assertEqual([len(answer) for answer in given].count(2 + 2 * 7), 11)
        self.assertEqual([answer for answer in given if answer[0] != 0], [])

    def test_the_longest_rows(self):
        line = queue(*[FARTHEST] * 20) * 200
        self.assertEqual(answers(line), [1, -1] * 200)


if __name__ == "__main__":
    unittest.main()
