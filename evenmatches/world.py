"""What a line of calls works on: rules, players, parties and matches."""

TOP = 10000000


class Rules:
    def __init__(self, side, base, step, factor, reach, fine):
        self.side = side
        self.base = base
        self.step = step
        self.factor = factor
        self.reach = reach
        self.fine = fine


class Player:
    def __init__(self, number, rating):
        self.number = number
        self.rating = rating
        self.games = 0
        self.wins = 0
        self.leaves = 0


class Party:
    def __init__(self, number, members, since):
        self.number = number
        self.members = members
        self.since = since


class Match:
    def __init__(self, number, first, second):
        self.number = number
        self.first = first
        self.second = second


class World:
    """All that calls read and change; its dicts keep the order in which parties wait and matches began."""

    def __init__(self):
        self.start_over(Rules(1, 100000, 10000, 32000, 400000, 5000))

    def start_over(self, rules):
        self.rules = rules
        self.tick = 0
        self.pool = 0
        self.season = 1
        self.upcoming = 1
        self.players = {}
        self.parties = {}
        self.matches = {}

    def take_number(self):
        """Parties and matches draw from this one row of numbers."""
        number = self.upcoming
        self.upcoming = number + 1
        return number


def window_of(world, party):
    return world.rules.base + world.rules.step * (world.tick - party.since)


def numbers_of(row):
    """The numbers of players, or of parties."""
    return [one.number for one in row]


def ratings_of(players):
    return [player.rating for player in players]


def rating_total(world):
    return sum([player.rating for player in world.players.values()])


def waits(world, number):
    for party in world.parties.values():
        if number in numbers_of(party.members):
            return True
    return False


def plays(world, number):
    for game in world.matches.values():
        if number in numbers_of(game.first + game.second):
            return True
    return False


def ladder_place(player):
    return (-player.rating, player.games, player.number)


def ladder_of(world):
    return sorted(world.players.values(), key=ladder_place)
