"""The document's words done step by step, without regard to time, to hold the program against."""

from fractions import Fraction
from itertools import combinations, product
from math import floor

TOP = 10000000


class Model:
    def __init__(self):
        self.begin(1, 100000, 10000, 32000, 400000, 5000)

    def begin(self, *rules):
        self.side, self.base, self.step, self.factor, self.reach, self.fine = rules
        self.now = 0
        self.pool = 0
        self.era = 1
        self.upcoming = 1
        self.people = {}
        self.waiting = []
        self.matches = {}

    def number(self):
        self.upcoming += 1
        return self.upcoming - 1

    def window(self, party):
        return self.base + self.step * (self.now - party["since"])

    def ratings(self, row):
        return [self.people[who]["rating"] for party in row for who in party["who"]]

    def fit(self, first, second):
        return all(len(self.ratings(row)) == self.side for row in (first, second))

    def takes(self, party, everyone):
        own = self.ratings([party])
        apart = abs(Fraction(sum(everyone), len(everyone)) - Fraction(sum(own), len(own)))
        return apart <= self.window(party)

    def may_play(self, first, second):
        if not self.fit(first, second):
            return False
        everyone = self.ratings(first + second)
        return all(self.takes(party, everyone) for party in first + second)

    def value(self, first, second):
        uneven = abs(sum(self.ratings(first)) - sum(self.ratings(second)))
        return (uneven, -sum(self.now - party["since"] for party in first + second))

    def best(self, e):
        others = [party for party in self.waiting if party is not e]
        best = None
        for taking in product((True, False), repeat=len(others)):
            taken = [party for party, is_in in zip(others, taking) if is_in]
            if len(self.ratings([e] + taken)) != 2 * self.side:
                continue
            for parting in product((True, False), repeat=len(taken)):
                first = [e] + [party for party, is_in in zip(taken, parting) if is_in]
                second = [party for party, is_in in zip(taken, parting) if not is_in]
                if not self.may_play(first, second):
                    continue
                value = self.value(first, second)
                if best is None or value < best[0]:
                    best = (value, first, second)
        return best

    def make_one(self):
        for e in self.waiting:
            best = self.best(e)
            if best is not None:
                gone = best[1] + best[2]
                self.waiting = [party for party in self.waiting if party not in gone]
                sides = [[who for party in row for who in party["who"]] for row in best[1:]]
                number = self.number()
                self.matches[number] = sides
                return [number] + sides[0] + sides[1]
        return []

    def any_may_play(self):
        return any(self.best(e) is not None for e in self.waiting)

    def expected(self, first, second):
        far = self.reach * self.side
        return far + min(far, max(-far, sum(first) - sum(second)))

    def moved(self, first, second, came):
        far = self.reach * self.side
        exact = Fraction(self.factor * (came * far - self.expected(first, second)), 2 * far)
        return floor(exact + Fraction(1, 2))

    def end(self, number, came):
        sides = [[self.people[who] for who in side] for side in self.matches.pop(number)]
        first, second = [[person["rating"] for person in side] for side in sides]
        moved = self.moved(first, second, came)
        if moved > 0:
            moved = min(moved, min(second), TOP - max(first))
        if moved < 0:
            moved = max(moved, -min(first), -(TOP - max(second)))
        for side, sign, winning in zip(sides, (1, -1), (2, 0)):
            for person in side:
                person["rating"] += sign * moved
                person["games"] += 1
                person["wins"] += 1 if came == winning else 0
        return moved

    def whereabouts(self, who):
        if any(who in party["who"] for party in self.waiting):
            return 1
        if any(who in side for sides in self.matches.values() for side in sides):
            return 2
        return 0

    def total(self):
        return sum(person["rating"] for person in self.people.values()) + self.pool

    def told(self, call):
        """What is answered to one call."""
        told = call[1:]
        if call[0] in (2, 16):
            told = call[2:]
        if call[0] in (11, 12):
            told = [call[2:2 + call[1]], call[3 + call[1]:]]
        return getattr(self, "call_" + str(call[0]))(*told)

    def call_0(self, *rules):
        ranges = ((1, 3), (0, TOP), (1, 1000000), (0, 1000000), (1, TOP), (0, 1000000))
        if any(not low <= rule <= high for rule, (low, high) in zip(rules, ranges)):
            return [-1]
        self.begin(*rules)
        return [0]

    def call_1(self, number, rating):
        if not (1 <= number <= 999 and 0 <= rating <= TOP):
            return [-1]
        if number in self.people:
            return [-3]
        if len(self.people) == 24:
            return [-5]
        self.people[number] = {"rating": rating, "games": 0, "wins": 0, "left": 0}
        return [0, len(self.people)]

    def call_2(self, *row):
        if not 1 <= len(row) <= self.side or len(set(row)) != len(row):
            return [-1]
        if any(not 1 <= who <= 999 for who in row):
            return [-1]
        if any(who not in self.people for who in row):
            return [-2]
        if any(self.whereabouts(who) for who in row):
            return [-3]
        if len(self.waiting) == 12:
            return [-5]
        self.waiting.append({"number": self.number(), "who": list(row), "since": self.now})
        return [0, self.waiting[-1]["number"]]

    def call_3(self, number):
        left = [party for party in self.waiting if party["number"] != number]
        if len(left) == len(self.waiting):
            return [-2]
        self.waiting = left
        return [0]

    def call_4(self, k):
        if not 1 <= k <= 50:
            return [-1]
        if self.now + k > 1000000:
            return [-5]
        made = []
        for _ in range(k):
            self.now += 1
            one = self.make_one()
            while one:
                made.extend(one)
                one = self.make_one()
        return [0, self.now] + made

    def call_5(self, number, came):
        if not 0 <= came <= 2:
            return [-1]
        if number not in self.matches:
            return [-2]
        return [0, self.end(number, came)]

    def call_6(self, number, who):
        if number not in self.matches:
            return [-2]
        if who in self.matches[number][0]:
            came = 0
        elif who in self.matches[number][1]:
            came = 2
        else:
            return [-4]
        moved = self.end(number, came)
        paid = min(self.fine, self.people[who]["rating"])
        self.people[who]["rating"] -= paid
        self.people[who]["left"] += 1
        self.pool += paid
        return [0, moved, paid]

    def call_7(self, who):
        if who not in self.people:
            return [-2]
        person = self.people[who]
        return [0, person["rating"], person["games"], person["wins"], person["left"], self.whereabouts(who)]

    def call_8(self):
        rows = sorted((-person["rating"], person["games"], who) for who, person in self.people.items())
        return [0] + [number for row in rows for number in (row[2], -row[0])]

    def call_9(self):
        answer = [0]
        for party in self.waiting:
            answer += [party["number"], party["since"], self.window(party), len(party["who"])] + party["who"]
        return answer

    def call_10(self):
        answer = [0]
        for number, (first, second) in self.matches.items():
            answer += [number] + first + second
        return answer

    def call_11(self, first, second):
        for row in (first, second):
            if len(row) != self.side or any(not 0 <= value <= TOP for value in row):
                return [-1]
        share = Fraction(self.expected(first, second), 2 * self.reach * self.side)
        moves = [self.moved(first, second, came) for came in (2, 1, 0)]
        return [0, share.numerator, share.denominator] + moves

    def call_12(self, *rows):
        waiting = {party["number"]: party for party in self.waiting}
        if any(number not in waiting for row in rows for number in row):
            return [-2]
        if len(set(rows[0] + rows[1])) != len(rows[0] + rows[1]):
            return [-4]
        first, second = [[waiting[number] for number in row] for row in rows]
        if not self.fit(first, second):
            return [0, 0, 1]
        everyone = self.ratings(first + second)
        for party in first + second:
            if not self.takes(party, everyone):
                return [0, 0, 2, party["number"]]
        uneven, negative_wait = self.value(first, second)
        return [0, 1, uneven, -negative_wait]

    def call_13(self, number):
        for party in self.waiting:
            if party["number"] == number:
                best = self.best(party)
                if best is None:
                    return [0, 0]
                (uneven, negative_wait), first, second = best
                names = [one["number"] for one in first + second]
                return [0, 1, uneven, -negative_wait, len(first)] + names
        return [-2]

    def call_14(self):
        if self.matches:
            return [-3]
        self.era += 1
        if self.people:
            self.end_season()
        return [0, self.era, self.pool]

    def end_season(self):
        ladder = self.call_8()[1::2]
        n = len(ladder)
        together = sum(person["rating"] for person in self.people.values())
        given = min(self.pool, n * TOP - together)
        self.pool -= given
        for person in self.people.values():
            person["rating"] = floor(Fraction(person["rating"] * n + together, 2 * n))
            person["games"] = person["wins"] = 0
        left = given + together - sum(person["rating"] for person in self.people.values())
        for place, who in enumerate(ladder):
            self.people[who]["rating"] += left // n + (1 if place < left % n else 0)
        for person in self.people.values():
            self.pool += max(0, person["rating"] - TOP)
            person["rating"] = min(person["rating"], TOP)

    def call_15(self):
        return [0, self.total() - self.pool, self.pool, len(self.people)]

    def call_16(self, *row):
        if len(row) > 10 or len(row) % 2 or any(not 0 <= value <= TOP for value in row):
            return [-1]
        best = None
        for half in combinations(range(len(row)), len(row) // 2):
            other = [place for place in range(len(row)) if place not in half]
            apart = abs(sum(row[place] for place in half) - sum(row[place] for place in other))
            if best is None or apart < best[0]:
                best = (apart, half)
        return [0, best[0], *best[1]]

    def call_17(self, number):
        for party in self.waiting:
            if party["number"] == number:
                return [0, self.window(party)]
        return [-2]

    def call_18(self):
        counts = [len(self.people), len(self.waiting), len(self.matches)]
        return [0, self.now, *counts, self.upcoming, self.pool, self.era]

    def call_19(self, who):
        if who not in self.people:
            return [-2]
        if self.whereabouts(who):
            return [-3]
        rating = self.people.pop(who)["rating"]
        self.pool += rating
        return [0, rating]
