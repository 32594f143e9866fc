"""A season's end: all go halfway to the mean, and the pool is given back as far as there is room."""

from evenmatches.world import TOP, ladder_of, ratings_of


def halfway_to_mean(rating, ratings):
    size = len(ratings)
    return (rating * size + sum(ratings)) // (2 * size)


def draw_from_pool(world, ratings):
    """Takes out of the pool what the players have room for, and answers it."""
    drawn = min(world.pool, len(ratings) * TOP - sum(ratings))
    world.pool -= drawn
    return drawn


def share_at(place, spare, size):
    """What of the spare goes to this place of the ladder."""
    even = spare // size
    if place < spare % size:
        return even + 1
    return even


def give_rating(world, player, rating):
    player.rating = min(rating, TOP)
    world.pool += rating - player.rating


def settle_players(world):
    # The ladder goes by ratings and games, so it's drawn up ahead of changing them.
    ladder = ladder_of(world)
    ratings = ratings_of(ladder)
    size = len(ladder)
    settled = [halfway_to_mean(rating, ratings) for rating in ratings]
    spare = draw_from_pool(world, ratings) + sum(ratings) - sum(settled)
    for place, player in enumerate(ladder):
        give_rating(world, player, settled[place] + share_at(place, spare, size))
        player.games = 0
        player.wins = 0


def end_season(world):
    if len(world.players) > 0:
        settle_players(world)
    world.season += 1
