"""Telling calls by name and taking answers apart."""

from evenmatches.players import answers

TOP = 10000000
FARTHEST = 1000000000000000000


def begin(side=1, base=100000, step=10000, factor=32000, reach=400000, fine=5000):
    return [0, side, base, step, factor, reach, fine]


def player(number, rating):
    return [1, number, rating]


def queue(*players):
    return [2, len(players), *players]


def unqueue(party):
    return [3, party]


def tick(k):
    return [4, k]


def result(match, w):
    return [5, match, w]


def leave(match, who):
    return [6, match, who]


def rating(who):
    return [7, who]


def ladder():
    return [8]


def entries():
    return [9]


def matches():
    return [10]


def expect(first, second):
    return [11, len(first), *first, len(second), *second]


def judge(first, second):
    return [12, len(first), *first, len(second), *second]


def best(party):
    return [13, party]


def season():
    return [14]


def sums():
    return [15]


def split(*ratings):
    return [16, len(ratings), *ratings]


def window(party):
    return [17, party]


def state():
    return [18]


def remove(who):
    return [19, who]


def taken_apart(given):
    """The answers, one list a call."""
    apart = []
    place = 0
    while place < len(given):
        size = given[place]
        apart.append(given[place + 1:place + 1 + size])
        place += 1 + size
    return apart


def told(*calls):
    """The calls' answers, one list a call."""
    line = []
    for call in calls:
        line.extend(call)
    return taken_apart(answers(line))


def last(*calls):
    return told(*calls)[-1]


def players(*ratings):
    """Players 1, 2, 3 .. with these ratings."""
    return [player(number, value) for number, value in enumerate(ratings, start=1)]


def queues(*numbers):
    """A party of its own for each."""
    return [queue(number) for number in numbers]


def all_seen(numbers):
    """Calls that show all that can be seen of these players, the parties and the matches."""
    return [ladder(), entries(), matches(), sums(), state()] + [rating(number) for number in numbers]
