"""What a match's end moves."""

from evenmatches.world import TOP, numbers_of, ratings_of

SECOND_WON = 0
DRAW = 1
FIRST_WON = 2


def far_of(rules):
    return rules.reach * rules.side


def expected(rules, first, second):
    """What the first side may expect, of 2 times far; first and second are ratings."""
    far = far_of(rules)
    apart = sum(first) - sum(second)
    return far + max(-far, min(far, apart))


def free_move(rules, first, second, came):
    """What would be moved if no rating had an end."""
    far = far_of(rules)
    share = rules.factor * (came * far - expected(rules, first, second))
    # Half the divisor on top, then rounding down: so a half goes up below 0 too.
    return (share + far) // (2 * far)


def common_divisor(one, other):
    while other > 0:
        rest = one % other
        one = other
        other = rest
    return one


def lowest_terms(above, below):
    """The fraction's two numbers without what divides both."""
    divisor = common_divisor(above, below)
    return [above // divisor, below // divisor]


def expectation(rules, first, second):
    """What the first side may expect as a fraction: two numbers in lowest terms."""
    return lowest_terms(expected(rules, first, second), 2 * far_of(rules))


def held_move(rules, first, second, came):
    moved = free_move(rules, first, second, came)
    if moved > 0:
        return min(moved, min(second), TOP - max(first))
    return -min(-moved, min(first), TOP - max(second))


def play_out(players, moved, won):
    for player in players:
        player.rating += moved
        player.games += 1
        if won:
            player.wins += 1


def end_match(world, game, came):
    """Answers what's moved."""
    moved = held_move(world.rules, ratings_of(game.first), ratings_of(game.second), came)
    play_out(game.first, moved, came == FIRST_WON)
    play_out(game.second, -moved, came == SECOND_WON)
    world.matches.pop(game.number)
    return moved


def loss_of(game, number):
    """What comes if this player's side loses."""
    if number in numbers_of(game.first):
        return SECOND_WON
    return FIRST_WON


def pay_fine(world, player):
    """Answers what was paid."""
    paid = min(world.rules.fine, player.rating)
    player.rating -= paid
    player.leaves += 1
    world.pool += paid
    return paid
