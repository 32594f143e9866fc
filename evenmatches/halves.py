"""Parting ratings into two halves that are as even as can be."""


def ways_to_pick(places, wanted):
    """All ways to pick so many places; those with the first place go ahead."""
    if wanted == 0:
        return [[]]
    if len(places) < wanted:
        return []
    rest = places[1:]
    with_first = ways_to_pick(rest, wanted - 1)
    return [[places[0]] + way for way in with_first] + ways_to_pick(rest, wanted)


def halves_apart(ratings, half):
    """How far the ratings at the half's places are from the others, together."""
    return abs(sum(ratings) - 2 * sum([ratings[place] for place in half]))


def most_even_half(ratings):
    """The places of the first half than which no other is more even."""
    places = list(range(len(ratings)))
    best = None
    for half in ways_to_pick(places, len(ratings) // 2):
        if best is None or halves_apart(ratings, half) < halves_apart(ratings, best):
            best = half
    return best
