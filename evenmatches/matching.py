"""Which parties play one another, and when."""

from evenmatches.world import Match


class Pairing:
    """Two sides of parties that may play."""

    def __init__(self, first, second, tick):
        self.first = first
        self.second = second
        self.uneven = abs(rating_sum(first) - rating_sum(second))
        self.waited = sum([tick - party.since for party in first + second])


def is_better(one, other):
    if one.uneven != other.uneven:
        return one.uneven < other.uneven
    return one.waited > other.waited


def rating_sum(parties):
    total = 0
    for party in parties:
        for player in party.members:
            total += player.rating
    return total


def members_of(parties):
    members = []
    for party in parties:
        members.extend(party.members)
    return members


def parties_without(row, gone):
    numbers = [party.number for party in gone]
    return [party for party in row if party.number not in numbers]


def ways_to_take(row, wanted):
    """All ways to take parties of the row that have so many players together.

    Those with the row's first party go ahead: this is the order of the ways
    for taking parties and for parting them alike.
    """
    if wanted == 0:
        return [[]]
    if wanted < 0 or len(row) == 0:
        return []
    rest = row[1:]
    with_first = ways_to_take(rest, wanted - len(row[0].members))
    return [[row[0]] + way for way in with_first] + ways_to_take(rest, wanted)


def rounded_up(amount, divisor):
    return -(-amount // divisor)


def taken_since(rules, party, total):
    """The tick from which the party takes a match whose ratings are so many together."""
    size = len(party.members)
    everyone = 2 * rules.side
    apart = abs(total * size - rating_sum([party]) * everyone)
    # A window is whole: it reaches the exact distance just when it reaches the distance rounded up.
    lacking = rounded_up(apart, size * everyone) - rules.base
    return party.since + max(0, rounded_up(lacking, rules.step))


def first_unwilling(world, parties):
    """The first of the parties that doesn't take a match of them all now, or None."""
    total = rating_sum(parties)
    for party in parties:
        if taken_since(world.rules, party, total) > world.tick:
            return party
    return None


def playable_since(rules, parties):
    """The tick from which all these parties take a match of them all."""
    total = rating_sum(parties)
    return max([taken_since(rules, party, total) for party in parties])


def pairings_of(world, party):
    """All sides with this party ahead that may play now, in the order of the ways."""
    side = world.rules.side
    size = len(party.members)
    others = parties_without(list(world.parties.values()), [party])
    pairings = []
    for taken in ways_to_take(others, 2 * side - size):
        if first_unwilling(world, [party] + taken) is None:
            for mates in ways_to_take(taken, side - size):
                pairings.append(Pairing([party] + mates, parties_without(taken, mates), world.tick))
    return pairings


def best_match(world, party):
    best = None
    for pairing in pairings_of(world, party):
        if best is None or is_better(pairing, best):
            best = pairing
    return best


def match_in_turn(world):
    """The best match of the first party that has one."""
    for party in world.parties.values():
        best = best_match(world, party)
        if best is not None:
            return best
    return None


def begin_match(world, pairing):
    for party in pairing.first + pairing.second:
        world.parties.pop(party.number)
    game = Match(world.take_number(), members_of(pairing.first), members_of(pairing.second))
    world.matches[game.number] = game
    return game


def make_matches(world):
    made = []
    pairing = match_in_turn(world)
    while pairing is not None:
        made.append(begin_match(world, pairing))
        pairing = match_in_turn(world)
    return made


def next_play(world):
    """The first tick at which a match can be made of those who wait, or None."""
    side = world.rules.side
    soonest = None
    for group in ways_to_take(list(world.parties.values()), 2 * side):
        start = playable_since(world.rules, group)
        if soonest is None or start < soonest:
            # Three parties of 2 fill two sides of 3 but can't be parted into them.
            if len(ways_to_take(group, side)) > 0:
                soonest = start
    return soonest


def let_ticks_go_by(world, ticks):
    """The matches made; ticks at which none can be made aren't searched, as searching is slow."""
    made = []
    soonest = next_play(world)
    for passed in range(ticks):
        world.tick += 1
        if soonest is not None and soonest <= world.tick:
            made.extend(make_matches(world))
            soonest = next_play(world)
    return made
