"""The program's interface: a list of calls in, a list of their answers out."""

from evenmatches.calls import answer_next
from evenmatches.reader import Reader
from evenmatches.world import World


def answers(calls):
    """For each call, in order: how many numbers are answered, and these."""
    world = World()
    reader = Reader(calls)
    given = []
    while reader.has_more():
        answer = answer_next(world, reader)
        given.append(len(answer))
        given.extend(answer)
    return given
