"""What holds of every line: sums, what's left behind a tick, the list handed in, its length, and the model."""

import contextlib
import io
import itertools
import random
import unittest

from evenmatches.calls import answer_next
from evenmatches.players import answers
from evenmatches.reader import Reader
from evenmatches.world import World, ratings_of
from tests.helpers import (
    FARTHEST, TOP, begin, best, entries, expect, judge, ladder, last, leave, matches, player, players, queue, queues,
    rating, remove, result, season, split, state, sums, taken_apart, tick, told, unqueue, window,
)
from tests.model import Model


# What each call may be refused with.
REFUSALS = (
    (-1,), (-1, -3, -5), (-1, -2, -3, -5), (-2,), (-1, -5), (-1, -2), (-2, -4), (-2,), (), (), (), (-1,), (-2, -4),
    (-2,), (-3,), (), (-1,), (-2,), (), (-2, -3),
)
# How many whole numbers each call has, and how many rows.
FORMS = (
    (6, 0), (2, 0), (0, 1), (1, 0), (1, 0), (2, 0), (2, 0), (1, 0), (0, 0), (0, 0), (0, 0), (0, 2), (0, 2), (1, 0),
    (0, 0), (0, 0), (0, 1), (1, 0), (0, 0), (1, 0),
)


def calls_of(line):
    """The list taken apart, one list a call."""
    calls = []
    place = 0
    while place < len(line):
        wholes, rows = FORMS[line[place]]
        end = place + 1 + wholes
        for _ in range(rows):
            end += 1 + line[end]
        calls.append(line[place:end])
        place = end
    return calls


def any_rating(dice):
    near = 1000000 + dice.randrange(-300, 300)
    return dice.choice((near, near, near, dice.randrange(TOP + 1), 0, TOP, TOP - dice.randrange(50), dice.randrange(50)))


def any_rules(dice):
    return begin(
        side=dice.choice((1, 2, 2, 3)),
        base=dice.choice((0, 20, 100, 100000, TOP)),
        step=dice.choice((1, 7, 30, 10000, 1000000)),
        factor=dice.choice((0, 1, 7, 32000, 1000000)),
        reach=dice.choice((1, 30, 400000, TOP)),
        fine=dice.choice((0, 10, 5000, 1000000)),
    )


def any_wrong(dice):
    """Calls that are mostly refused."""
    odd = dice.choice((-FARTHEST, -1, 0, 4, 51, 1000, TOP + 1, FARTHEST))
    return dice.choice((
        begin(side=odd), begin(base=odd), begin(step=odd), begin(fine=odd), player(odd, 5), player(5, odd), queue(),
        queue(odd), queue(3, 3), queue(1, 2, 3, 4), unqueue(odd), result(odd, 1), result(1, odd), leave(odd, 1),
        leave(dice.randrange(60), odd), rating(odd), tick(51), tick(0), tick(-1), expect([odd], [5]), expect([], []),
        expect([5, 5], [odd, 5]), judge([odd], []), split(odd, 5), split(5), split(*[5] * 12), window(odd), remove(odd),
    ))


def one_of(dice, known):
    """Mostly a number of those that are there."""
    if known and dice.randrange(8) > 0:
        return dice.choice(sorted(known))
    return dice.randrange(1, 60)


def any_queue(dice, model):
    free = [number for number in sorted(model.people) if model.whereabouts(number) == 0]
    if not free or dice.randrange(10) == 0:
        free = list(range(1, 26))
    return queue(*dice.sample(free, min(len(free), dice.randint(1, model.side))))


def any_leave(dice, model):
    match = one_of(dice, model.matches)
    sides = model.matches.get(match, [[], []])
    return leave(match, one_of(dice, sides[0] + sides[1]))


def any_judge(dice, model):
    numbers = [party["number"] for party in model.waiting]
    sizes = {party["number"]: len(party["who"]) for party in model.waiting}
    dice.shuffle(numbers)
    rows = ([], [])
    for row in rows:
        while numbers and sum(sizes.get(number, 1) for number in row) < model.side:
            row.append(numbers.pop())
    if dice.randrange(5) == 0:
        rows[dice.randrange(2)].append(one_of(dice, sizes))
    return judge(*rows)


def any_season(dice, model):
    """Calls towards a season's end: first the matches end."""
    if model.matches and dice.randrange(4) > 0:
        return result(one_of(dice, model.matches), dice.randrange(3))
    return season()


def any_split(dice):
    most = dice.choice((1, 5, 100, TOP))
    return split(*[dice.randint(0, most) for _ in range(2 * dice.randrange(6))])


def any_question(dice, model):
    """One of calls 10 to 18 (but best)."""
    rows = [[any_rating(dice) for _ in range(model.side)] for _ in range(2)]
    return dice.choice((
        matches(), expect(*rows), any_judge(dice, model), any_judge(dice, model), sums(), any_split(dice), state(),
        window(one_of(dice, [party["number"] for party in model.waiting])),
    ))


def any_call(dice, model):
    kind = dice.randrange(26)
    if kind == 0 or len(model.people) < dice.randrange(8):
        return player(dice.randrange(1, 26), any_rating(dice))
    if kind < 9:
        return any_queue(dice, model)
    if kind == 9:
        return unqueue(one_of(dice, [party["number"] for party in model.waiting]))
    if kind < 13:
        return result(one_of(dice, model.matches), dice.randrange(3))
    if kind < 16:
        return any_leave(dice, model)
    if kind < 20:
        return any_question(dice, model)
    if kind < 22:
        return any_season(dice, model)
    if kind == 22:
        return remove(one_of(dice, model.people))
    return dice.choice((ladder(), entries(), rating(one_of(dice, model.people)), any_wrong(dice)))


def any_search(dice, model):
    """A tick, or a best match asked for."""
    if dice.randrange(3) == 0:
        return best(one_of(dice, [party["number"] for party in model.waiting]))
    return tick(dice.choice((1, 1, 1, 2, 2, 3, 5, 50)))


def any_line(seed, people, size):
    """A list of calls, at most 30 of them tick or best; what the document asks as answers; the model behind them."""
    dice = random.Random(seed)
    model = Model()
    calls = [any_rules(dice)] + players(*[any_rating(dice) for _ in range(people)])
    wanted = [model.told(call) for call in calls]
    searches = 0
    while len(calls) < size:
        call = any_call(dice, model)
        if searches < 30 and dice.randrange(5) == 0:
            call = any_search(dice, model)
        searches += 1 if call[0] in (4, 13) else 0
        calls.append(call)
        wanted.append(model.told(call))
    return [number for call in calls for number in call], wanted, model


class AgainstTheModel(unittest.TestCase):
    def held(self, seed, people, size):
        line, wanted, model = any_line(seed, people, size)
        self.assertEqual(taken_apart(answers(line)), wanted, seed)

    def test_short_lines(self):
        for seed in range(300):
            self.held(seed, 1 + seed % 6, 50)

    def test_longer_lines(self):
        for seed in range(1000, 1060):
            self.held(seed, 7 + seed % 3, 120)

    def test_behind_a_tick_no_two_sides_are_left_that_may_play(self):
        for seed in range(2000, 2060):
            line, wanted, model = any_line(seed, 8, 50)
            wanted.append(model.told(tick(1)))
            self.assertEqual(taken_apart(answers(line + tick(1))), wanted, seed)
            self.assertFalse(model.any_may_play())

    def test_all_twenty_calls_and_their_refusals_are_in_these_lists(self):
        seen = set()
        for seed in range(300):
            line, wanted, model = any_line(seed, 1 + seed % 6, 50)
            for call, answer in zip(calls_of(line), wanted):
                seen.add((call[0], min(answer[0], 0)))
        # Only what has no place is left to tests of its own: it takes many calls.
        for call, refusals in enumerate(REFUSALS):
            for answer in (0, *refusals):
                self.assertTrue((call, answer) in seen or answer == -5, (call, answer))

    def test_best_of_twelve_parties(self):
        dice = random.Random(12)
        for base, most in ((TOP, 4), (2, 4), (TOP, TOP)):
            calls = [begin(side=3, base=base, step=1), *players(*[dice.randint(0, most) for _ in range(16)])]
            calls += [*queues(*range(1, 9)), queue(9, 10), queue(11, 12), queue(13, 14), queue(15, 16)]
            calls += [best(1), best(6), best(12)]
            model = Model()
            self.assertEqual(told(*calls), [model.told(call) for call in calls])


def waiting_rows(line):
    """The numbers of the parties that wait behind these calls."""
    shown = taken_apart(answers(line + entries()))[-1]
    numbers = []
    place = 1
    while place < len(shown):
        numbers.append(shown[place])
        place += 4 + shown[place + 3]
    return numbers


def answers_behind(line, calls):
    """What these calls answer behind the line, at most 100 of them at a time."""
    given = []
    for place in range(0, len(calls), 100):
        part = calls[place:place + 100]
        given += taken_apart(answers(line + [number for call in part for number in call]))[-len(part):]
    return given


class BehindATick(unittest.TestCase):
    def left_behind(self, line):
        """How many parties are left, none of them with a best match, no two rows of them that may play."""
        numbers = waiting_rows(line)
        rows = [list(row) for size in (1, 2, 3) for row in itertools.combinations(numbers, size)]
        pairs = [judge(*two) for two in itertools.combinations(rows, 2) if not set(two[0]) & set(two[1])]
        for answer in answers_behind(line, pairs):
            self.assertEqual(answer[:2], [0, 0])
        for answer in answers_behind(line, [best(number) for number in numbers]):
            self.assertEqual(answer, [0, 0])
        return len(numbers)

    def test_no_two_sides_are_left_that_may_play(self):
        dice = random.Random(4)
        left = 0
        for turn in range(40):
            side = 1 + turn % 3
            line = begin(side=side, base=dice.choice((0, 20, 60)), step=dice.choice((1, 5)))
            for number in range(1, 15):
                line += player(number, dice.randrange(300))
            free = list(range(1, 15))
            dice.shuffle(free)
            while free:
                size = min(len(free), dice.randint(1, side))
                line += queue(*free[:size])
                free = free[size:]
                if dice.randrange(3) == 0:
                    line += tick(dice.choice((1, 2)))
            left += self.left_behind(line + tick(1))
        self.assertGreater(left, 40)

    def test_a_match_made_is_the_best_of_the_party_whose_turn_it_is(self):
        # All windows are wide and parties are singles, so a tick changes nothing of what best tells ahead.
        dice = random.Random(13)
        for turn in range(12):
            side = 1 + turn % 3
            ready = [begin(side=side, base=TOP, step=1), *players(*[dice.randrange(40) for _ in range(12)])]
            ready += queues(*dice.sample(range(1, 13), 12))
            who = {number: call[2] for number, call in enumerate(ready[13:], start=1)}
            made = last(*ready, tick(1))[2:]
            gone = []
            while made:
                first = min(number for number in who if number not in gone)
                names = last(*ready, *[unqueue(number) for number in gone], best(first))[5:]
                self.assertEqual(made[1:1 + 2 * side], [who[number] for number in names])
                gone += names
                made = made[1 + 2 * side:]
            self.assertEqual(len(gone), 12)

    def test_the_first_that_has_a_best_match_has_its_turn(self):
        # A world set one tick ahead tells what is best when the tick's matches are made.
        dice = random.Random(31)
        for turn in range(60):
            side = 1 + turn % 3
            calls = [begin(side=side, base=20, step=5), *players(*[dice.randrange(200) for _ in range(9)])]
            calls += [*queues(*range(1, 7)), queue(*range(7, 7 + side))]
            world = World()
            for call in calls:
                answer_next(world, Reader(call))
            world.tick = 1
            wanted = []
            for number in range(1, 8):
                answer = answer_next(world, Reader(best(number)))
                if answer[1] == 1 and not wanted:
                    rows = [world.parties[name].members for name in answer[5:]]
                    wanted = [one.number for row in rows for one in row]
            self.assertEqual(last(*calls, tick(1))[3:3 + 2 * side], wanted)


class Sums(unittest.TestCase):
    def test_sums_tell_it_behind_every_call(self):
        for seed in range(5000, 5060):
            line = any_line(seed, 8, 99)[0]
            calls = calls_of(line)
            given = taken_apart(answers([number for call in calls for number in [*call, *sums()]]))
            total = 0
            for call, answer, shown in zip(calls, given[::2], given[1::2]):
                if answer[0] == 0 and call[0] == 0:
                    total = 0
                if answer[0] == 0 and call[0] == 1:
                    total += call[2]
                self.assertEqual(shown[0], 0)
                self.assertEqual(shown[1] + shown[2], total, (seed, call))

    def test_ratings_and_pool_change_by_new_players_and_begin_only(self):
        for seed in range(3000, 3060):
            line = any_line(seed, 8, 100)[0]
            world = World()
            reader = Reader(line)
            total = 0
            while reader.has_more():
                call = line[reader.place:reader.place + 3]
                answer = answer_next(world, reader)
                if answer[0] == 0 and call[0] == 0:
                    total = 0
                if answer[0] == 0 and call[0] == 1:
                    total += call[2]
                self.assertEqual(sum(ratings_of(world.players.values())) + world.pool, total)
                for value in ratings_of(world.players.values()):
                    self.assertTrue(0 <= value <= TOP)

    def test_the_ladder_and_what_was_paid_stay_the_same_together(self):
        ready = [
            begin(side=2, base=TOP, step=1), *players(5, 9000, 700000, TOP), queue(1, 4), queue(2, 3), ladder(), tick(1),
            ladder(), result(3, 2), ladder(), queue(4, 1), queue(3, 2), tick(1), leave(6, 4), ladder(),
        ]
        given = told(*ready)
        sums = [sum(given[place][2::2]) for place in (7, 9, 11)]
        self.assertEqual(sums, [10709005 for _ in sums])
        self.assertEqual(given[15][2], 5000)
        self.assertEqual(sum(given[16][2::2]) + 5000, 10709005)

    def test_what_is_paid_goes_to_the_pool(self):
        world = World()
        for call in (*players(60000, 60000), *queues(1, 2), tick(1), leave(3, 2), *queues(1, 2), tick(1), leave(6, 2)):
            answer_next(world, Reader(call))
        self.assertEqual(world.pool, 10000)
        answer_next(world, Reader(begin()))
        self.assertEqual((world.pool, world.season, world.tick, world.upcoming), (0, 1, 0, 1))


class HandedIn(unittest.TestCase):
    def test_the_list_stays_as_it_was(self):
        for seed in range(20):
            line = any_line(seed, 6, 60)[0]
            copy = list(line)
            answers(line)
            self.assertEqual(line, copy)

    def test_the_list_is_not_written_to_for_a_while_either(self):
        class Guarded(list):
            def refuse(self, *told):
                raise AssertionError("the list was written to")

            append = extend = insert = pop = remove = clear = reverse = sort = refuse
            __setitem__ = __delitem__ = __iadd__ = __imul__ = refuse

        line = any_line(7, 6, 60)[0]
        self.assertEqual(answers(Guarded(line)), answers(line))

    def test_nothing_is_printed(self):
        said = io.StringIO()
        with contextlib.redirect_stdout(said), contextlib.redirect_stderr(said):
            answers(any_line(8, 6, 100)[0])
        self.assertEqual(said.getvalue(), "")

    def test_two_goes_give_the_same(self):
        line = any_line(5, 6, 80)[0]
        other = any_line(6, 6, 80)[0]
        first = answers(line)
        answers(other)
        self.assertEqual(answers(line), first)

    def test_a_change_of_an_answer_changes_no_later_one(self):
        first = answers([8])
        first.append(5)
        self.assertEqual(answers([8]), [1, 0])

    def test_answers_are_whole_numbers(self):
        given = answers(any_line(11, 8, 100)[0])
        self.assertIs(type(given), list)
        self.assertEqual([value for value in given if type(value) is not int], [])

    def test_each_answer_has_its_size_ahead(self):
        line = [1, 5, 70, 1, 5, 70, 8, 9, 7, 5, 4, 2]
        self.assertEqual(answers(line), [2, 0, 1, 1, -3, 3, 0, 5, 70, 1, 0, 6, 0, 70, 0, 0, 0, 0, 2, 0, 2])

    def test_rows_are_read_to_their_end_even_if_refused(self):
        for size in (0, 1, 4, 20):
            self.assertEqual(answers([2, size] + [8] * size + [8]), [1, -1 if size != 1 else -2, 1, 0])
            self.assertEqual(answers([12, size] + [8] * size + [1, 8, 8]), [1, -2, 1, 0])
            self.assertEqual(answers([11, 0, size] + [8] * size + [8]), [1, -1, 1, 0])
            self.assertEqual(answers([16, 1 + size] + [-8] * (1 + size) + [8]), [1, -1, 1, 0])

    def test_all_twenty_calls_in_one_list(self):
        line = [
            begin(side=1, base=TOP, step=1), *players(6, 8, 10), *queues(1, 2), judge([1], [2]), best(2), window(1),
            tick(1), matches(), season(), result(3, 1), queue(3), unqueue(4), ladder(), entries(), expect([0], [0]),
            split(1, 2), rating(1), season(), remove(3), sums(), leave(3, 1), state(),
        ]
        self.assertEqual(sorted({call[0] for call in line}), list(range(20)))
        self.assertEqual(told(*line), [
            [0], [0, 1], [0, 2], [0, 3], [0, 1], [0, 2], [0, 1, 2, 0], [0, 1, 2, 0, 1, 2, 1], [0, TOP],
            [0, 1, 3, 1, 2], [0, 3, 1, 2], [-3], [0, 0], [0, 4], [0], [0, 3, 10, 2, 8, 1, 6], [0],
            [0, 1, 2, 16000, 0, -16000], [0, 1, 0], [0, 6, 1, 0, 0, 0], [0, 2, 0], [0, 9], [0, 15, 9, 2], [-2],
            [0, 1, 2, 0, 0, 5, 9, 2],
        ])


class LongLines(unittest.TestCase):
    def test_200_calls_30_of_them_ticks(self):
        line = list(begin(side=3, base=0, step=100000))
        for number in range(1, 25):
            line += player(number, number * 400000)
        for number in range(1, 13):
            line += queue(number)
        calls = 1 + 24 + 12
        for turn in range(30):
            line += tick(50) + queue(1 + turn % 24, 1 + (turn + 7) % 24) + ladder() + entries() + result(13 + turn, 2)
            calls += 5
        line += rating(1) * (200 - calls)
        given = taken_apart(answers(line))
        self.assertEqual(len(given), 200)
        ticks = [given[37 + 5 * turn] for turn in range(30)]
        self.assertEqual([answer[1] for answer in ticks], [50 * (turn + 1) for turn in range(30)])
        self.assertGreater(sum(len(answer) - 2 for answer in ticks), 0)

    def test_200_calls_that_wait_in_vain(self):
        line = list(begin(side=3, base=0, step=1))
        for number in range(1, 13):
            line += player(number, number * 800000) + queue(number)
        line += tick(50) * 30 + entries() * 145
        given = taken_apart(answers(line))
        self.assertEqual(len(given), 200)
        self.assertEqual(given[25:55], [[0, 50 * (turn + 1)] for turn in range(30)])
        self.assertEqual(len(given[-1]), 1 + 12 * 5)

    def test_200_calls_with_many_matches(self):
        dice = random.Random(99)
        line = list(begin(side=3, base=TOP, step=1))
        for number in range(1, 25):
            line += player(number, dice.randrange(TOP))
        calls = 25
        upcoming = 1
        for turn in range(11):
            for number in dice.sample(range(1, 25), 12):
                line += queue(number)
            line += tick(1) + result(upcoming + 12, turn % 3) + result(upcoming + 13, 2)
            upcoming += 14
            calls += 15
        line += ladder() * (200 - calls)
        given = taken_apart(answers(line))
        self.assertEqual(len(given), 200)
        self.assertEqual([len(answer) for answer in given].count(2 + 2 * 7), 11)
        self.assertEqual([answer for answer in given if answer[0] != 0], [])

    def test_200_calls_30_of_them_best(self):
        dice = random.Random(200)
        calls = [begin(side=3, base=TOP, step=1), *players(*[dice.randrange(TOP) for _ in range(24)])]
        calls += queues(*range(1, 13))
        calls += [best(1 + turn % 12) for turn in range(30)]
        calls += [judge([1, 2, 3], [4, 5, 6]), expect([0] * 3, [TOP] * 3), split(*range(10)), sums(), state()] * 26
        calls += [season(), remove(24), season()]
        given = told(*calls)
        self.assertEqual(len(given), 200)
        for turn in range(30):
            answer = given[37 + turn]
            self.assertEqual(answer[:2] + answer[3:6], [0, 1, 0, 3, 1 + turn % 12])
            self.assertEqual(answer, given[37 + turn % 12])
        self.assertEqual([answer for answer in given if answer[0] != 0], [])
        self.assertEqual(given[-5], [0, sum(call[2] for call in calls if call[0] == 1), 0, 24])

    def test_200_calls_with_tick_and_best_in_turns(self):
        dice = random.Random(201)
        calls = [begin(side=3, base=0, step=200000), *players(*[dice.randrange(TOP) for _ in range(24)])]
        calls += [queue(number, number + 12) for number in range(1, 7)] + queues(*range(7, 13))
        upcoming = 13
        for turn in range(15):
            calls += [best(dice.randrange(1, upcoming)), tick(dice.randint(1, 50)), matches(), ladder(), sums()]
            calls += [result(upcoming, turn % 3), queue(dice.randint(1, 24)), season(), state()]
            upcoming += 1
        calls += [remove(dice.randint(1, 24)) for _ in range(200 - len(calls))]
        given = told(*calls)
        model = Model()
        self.assertEqual(len(given), 200)
        self.assertEqual(given, [model.told(call) for call in calls])

    def test_the_longest_rows_of_judge_and_expect(self):
        line = (judge([FARTHEST] * 20, [-FARTHEST] * 20) + expect([FARTHEST] * 20, [0] * 20)) * 100
        self.assertEqual(answers(line), [1, -2, 1, -1] * 100)

    def test_the_longest_rows(self):
        line = queue(*[FARTHEST] * 20) * 200
        self.assertEqual(answers(line), [1, -1] * 200)


if __name__ == "__main__":
    unittest.main()
