"""The calls: each reads its numbers, then is refused with all as it was, or carried out."""

from evenmatches.matching import let_ticks_go_by
from evenmatches.refusals import no_place, none_of_that_number, not_so, not_the_time, out_of_range
from evenmatches.results import end_match, loss_of, pay_fine
from evenmatches.world import TOP, Party, Player, Rules, ladder_of, numbers_of, plays, waits, window_of

MOST_NUMBER = 999
MOST_PLAYERS = 24
MOST_PARTIES = 12
MOST_TICKS = 50
LAST_TICK = 1000000
MILLION = 1000000


def within(whole, least, most):
    return least <= whole and whole <= most


def are_rules(rules):
    return (
        within(rules.side, 1, 3)
        and within(rules.base, 0, TOP)
        and within(rules.step, 1, MILLION)
        and within(rules.factor, 0, MILLION)
        and within(rules.reach, 1, TOP)
        and within(rules.fine, 0, MILLION)
    )


def call_begin(world, reader):
    side = reader.take_whole()
    base = reader.take_whole()
    step = reader.take_whole()
    factor = reader.take_whole()
    reach = reader.take_whole()
    fine = reader.take_whole()
    rules = Rules(side, base, step, factor, reach, fine)
    if not are_rules(rules):
        return out_of_range()
    world.start_over(rules)
    return [0]


def call_player(world, reader):
    number = reader.take_whole()
    rating = reader.take_whole()
    if not (within(number, 1, MOST_NUMBER) and within(rating, 0, TOP)):
        return out_of_range()
    if number in world.players:
        return not_the_time()
    if len(world.players) >= MOST_PLAYERS:
        return no_place()
    world.players[number] = Player(number, rating)
    return [0, len(world.players)]


def is_party_row(row, side):
    if not within(len(row), 1, side) or len(set(row)) < len(row):
        return False
    return all([within(number, 1, MOST_NUMBER) for number in row])


def call_queue(world, reader):
    row = reader.take_row()
    if not is_party_row(row, world.rules.side):
        return out_of_range()
    if any([number not in world.players for number in row]):
        return none_of_that_number()
    if any([waits(world, number) or plays(world, number) for number in row]):
        return not_the_time()
    if len(world.parties) >= MOST_PARTIES:
        return no_place()
    members = [world.players[number] for number in row]
    party = Party(world.take_number(), members, world.tick)
    world.parties[party.number] = party
    return [0, party.number]


def call_unqueue(world, reader):
    number = reader.take_whole()
    if number not in world.parties:
        return none_of_that_number()
    world.parties.pop(number)
    return [0]


def call_tick(world, reader):
    ticks = reader.take_whole()
    if not within(ticks, 1, MOST_TICKS):
        return out_of_range()
    if world.tick + ticks > LAST_TICK:
        return no_place()
    made = let_ticks_go_by(world, ticks)
    answer = [0, world.tick]
    for game in made:
        answer.append(game.number)
        answer.extend(numbers_of(game.first + game.second))
    return answer


def call_result(world, reader):
    number = reader.take_whole()
    came = reader.take_whole()
    if not within(came, 0, 2):
        return out_of_range()
    if number not in world.matches:
        return none_of_that_number()
    return [0, end_match(world, world.matches[number], came)]


def call_leave(world, reader):
    number = reader.take_whole()
    leaver = reader.take_whole()
    if number not in world.matches:
        return none_of_that_number()
    game = world.matches[number]
    if leaver not in numbers_of(game.first + game.second):
        return not_so()
    moved = end_match(world, game, loss_of(game, leaver))
    return [0, moved, pay_fine(world, world.players[leaver])]


def whereabouts(world, number):
    if waits(world, number):
        return 1
    if plays(world, number):
        return 2
    return 0


def call_rating(world, reader):
    number = reader.take_whole()
    if number not in world.players:
        return none_of_that_number()
    player = world.players[number]
    return [0, player.rating, player.games, player.wins, player.leaves, whereabouts(world, number)]


def call_ladder(world, reader):
    answer = [0]
    for player in ladder_of(world):
        answer.extend([player.number, player.rating])
    return answer


def call_entries(world, reader):
    answer = [0]
    for party in world.parties.values():
        answer.extend([party.number, party.since, window_of(world, party), len(party.members)])
        answer.extend(numbers_of(party.members))
    return answer


CALLS = (
    call_begin,
    call_player,
    call_queue,
    call_unqueue,
    call_tick,
    call_result,
    call_leave,
    call_rating,
    call_ladder,
    call_entries,
)


def answer_next(world, reader):
    call = CALLS[reader.take_whole()]
    return call(world, reader)
