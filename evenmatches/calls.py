"""The calls: each reads its numbers, then is refused with all as it was, or carried out."""

from evenmatches.halves import halves_apart, most_even_half
from evenmatches.matching import Pairing, best_match, first_unwilling, let_ticks_go_by, members_of
from evenmatches.refusals import no_place, none_of_that_number, not_so, not_the_time, out_of_range
from evenmatches.results import DRAW, FIRST_WON, SECOND_WON, end_match, expectation, free_move, loss_of, pay_fine
from evenmatches.season import end_season
from evenmatches.world import (
    TOP, Party, Player, Rules, ladder_of, numbers_of, plays, rating_total, waits, window_of,
)

MOST_NUMBER = 999
MOST_PLAYERS = 24
MOST_PARTIES = 12
MOST_TICKS = 50
MOST_SPLIT = 10
LAST_TICK = 1000000
MILLION = 1000000


def within(whole, least, most):
    return least <= whole and whole <= most


def are_rules(rules):
    return (
        within(rules.side, 1, 3)
        and within(rules.base, 0, TOP)
        and within(rules.step, 1, MILLION)
        and within(rules.factor, 0, MILLION)
        and within(rules.reach, 1, TOP)
        and within(rules.fine, 0, MILLION)
    )


def call_begin(world, reader):
    side = reader.take_whole()
    base = reader.take_whole()
    step = reader.take_whole()
    factor = reader.take_whole()
    reach = reader.take_whole()
    fine = reader.take_whole()
    rules = Rules(side, base, step, factor, reach, fine)
    if not are_rules(rules):
        return out_of_range()
    world.start_over(rules)
    return [0]


def call_player(world, reader):
    number = reader.take_whole()
    rating = reader.take_whole()
    if not (within(number, 1, MOST_NUMBER) and within(rating, 0, TOP)):
        return out_of_range()
    if number in world.players:
        return not_the_time()
    if len(world.players) >= MOST_PLAYERS:
        return no_place()
    world.players[number] = Player(number, rating)
    return [0, len(world.players)]


def is_party_row(row, side):
    if not within(len(row), 1, side) or len(set(row)) < len(row):
        return False
    return all([within(number, 1, MOST_NUMBER) for number in row])


def call_queue(world, reader):
    row = reader.take_row()
    if not is_party_row(row, world.rules.side):
        return out_of_range()
    if any([number not in world.players for number in row]):
        return none_of_that_number()
    if any([waits(world, number) or plays(world, number) for number in row]):
        return not_the_time()
    if len(world.parties) >= MOST_PARTIES:
        return no_place()
    members = [world.players[number] for number in row]
    party = Party(world.take_number(), members, world.tick)
    world.parties[party.number] = party
    return [0, party.number]


def call_unqueue(world, reader):
    number = reader.take_whole()
    if number not in world.parties:
        return none_of_that_number()
    world.parties.pop(number)
    return [0]


def shown_matches(games):
    shown = []
    for game in games:
        shown.append(game.number)
        shown.extend(numbers_of(game.first + game.second))
    return shown


def call_tick(world, reader):
    ticks = reader.take_whole()
    if not within(ticks, 1, MOST_TICKS):
        return out_of_range()
    if world.tick + ticks > LAST_TICK:
        return no_place()
    made = let_ticks_go_by(world, ticks)
    return [0, world.tick] + shown_matches(made)


def call_result(world, reader):
    number = reader.take_whole()
    came = reader.take_whole()
    if not within(came, 0, 2):
        return out_of_range()
    if number not in world.matches:
        return none_of_that_number()
    return [0, end_match(world, world.matches[number], came)]


def call_leave(world, reader):
    number = reader.take_whole()
    leaver = reader.take_whole()
    if number not in world.matches:
        return none_of_that_number()
    game = world.matches[number]
    if leaver not in numbers_of(game.first + game.second):
        return not_so()
    moved = end_match(world, game, loss_of(game, leaver))
    return [0, moved, pay_fine(world, world.players[leaver])]


def whereabouts(world, number):
    if waits(world, number):
        return 1
    if plays(world, number):
        return 2
    return 0


def call_rating(world, reader):
    number = reader.take_whole()
    if number not in world.players:
        return none_of_that_number()
    player = world.players[number]
    return [0, player.rating, player.games, player.wins, player.leaves, whereabouts(world, number)]


def call_ladder(world, reader):
    answer = [0]
    for player in ladder_of(world):
        answer.extend([player.number, player.rating])
    return answer


def call_entries(world, reader):
    answer = [0]
    for party in world.parties.values():
        answer.extend([party.number, party.since, window_of(world, party), len(party.members)])
        answer.extend(numbers_of(party.members))
    return answer


def call_matches(world, reader):
    return [0] + shown_matches(list(world.matches.values()))


def are_ratings(row):
    return all([within(rating, 0, TOP) for rating in row])


def is_side_of_ratings(row, side):
    return len(row) == side and are_ratings(row)


def call_expect(world, reader):
    first = reader.take_row()
    second = reader.take_row()
    rules = world.rules
    if not (is_side_of_ratings(first, rules.side) and is_side_of_ratings(second, rules.side)):
        return out_of_range()
    moves = [free_move(rules, first, second, came) for came in (FIRST_WON, DRAW, SECOND_WON)]
    return [0] + expectation(rules, first, second) + moves


def judgement(world, first, second):
    side = world.rules.side
    if len(members_of(first)) != side or len(members_of(second)) != side:
        return [0, 1]
    unwilling = first_unwilling(world, first + second)
    if unwilling is not None:
        return [0, 2, unwilling.number]
    pairing = Pairing(first, second, world.tick)
    return [1, pairing.uneven, pairing.waited]


def call_judge(world, reader):
    first = reader.take_row()
    second = reader.take_row()
    both = first + second
    if any([number not in world.parties for number in both]):
        return none_of_that_number()
    if len(set(both)) < len(both):
        return not_so()
    first_side = [world.parties[number] for number in first]
    second_side = [world.parties[number] for number in second]
    return [0] + judgement(world, first_side, second_side)


def call_best(world, reader):
    number = reader.take_whole()
    if number not in world.parties:
        return none_of_that_number()
    best = best_match(world, world.parties[number])
    if best is None:
        return [0, 0]
    told = [0, 1, best.uneven, best.waited, len(best.first)]
    return told + numbers_of(best.first + best.second)


def call_season(world, reader):
    if len(world.matches) > 0:
        return not_the_time()
    end_season(world)
    return [0, world.season, world.pool]


def call_sums(world, reader):
    return [0, rating_total(world), world.pool, len(world.players)]


def is_split_row(row):
    return len(row) <= MOST_SPLIT and len(row) % 2 == 0 and are_ratings(row)


def call_split(world, reader):
    row = reader.take_row()
    if not is_split_row(row):
        return out_of_range()
    half = most_even_half(row)
    return [0, halves_apart(row, half)] + half


def call_window(world, reader):
    number = reader.take_whole()
    if number not in world.parties:
        return none_of_that_number()
    return [0, window_of(world, world.parties[number])]


def call_state(world, reader):
    counts = [len(world.players), len(world.parties), len(world.matches)]
    return [0, world.tick] + counts + [world.upcoming, world.pool, world.season]


def call_remove(world, reader):
    number = reader.take_whole()
    if number not in world.players:
        return none_of_that_number()
    if waits(world, number) or plays(world, number):
        return not_the_time()
    gone = world.players.pop(number)
    world.pool += gone.rating
    return [0, gone.rating]


CALLS = (
    call_begin,
    call_player,
    call_queue,
    call_unqueue,
    call_tick,
    call_result,
    call_leave,
    call_rating,
    call_ladder,
    call_entries,
    call_matches,
    call_expect,
    call_judge,
    call_best,
    call_season,
    call_sums,
    call_split,
    call_window,
    call_state,
    call_remove,
)


def answer_next(world, reader):
    call = CALLS[reader.take_whole()]
    return call(world, reader)
