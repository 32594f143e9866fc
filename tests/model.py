"""The document's words done step by step, without regard to time, to hold the program against."""

from fractions import Fraction
from itertools import product
from math import floor

TOP = 10000000


class Model:
    def __init__(self):
        self.begin(1, 100000, 10000, 32000, 400000, 5000)

    def begin(self, *rules):
        self.side, self.base, self.step, self.factor, self.reach, self.fine = rules
        self.now = 0
        self.pool = 0
        self.upcoming = 1
        self.people = {}
        self.waiting = []
        self.matches = {}

    def number(self):
        self.upcoming += 1
        return self.upcoming - 1

    def window(self, party):
        return self.base + self.step * (self.now - party["since"])

    def ratings(self, row):
        return [self.people[who]["rating"] for party in row for who in party["who"]]

    def may_play(self, first, second):
        if any(len(self.ratings(row)) != self.side for row in (first, second)):
            return False
        everyone = self.ratings(first + second)
        mean = Fraction(sum(everyone), len(everyone))
        for party in first + second:
            own = self.ratings([party])
            if abs(mean - Fraction(sum(own), len(own))) > self.window(party):
                return False
        return True

    def value(self, first, second):
        uneven = abs(sum(self.ratings(first)) - sum(self.ratings(second)))
        return (uneven, -sum(self.now - party["since"] for party in first + second))

    def best(self, e):
        others = [party for party in self.waiting if party is not e]
        best = None
        for taking in product((True, False), repeat=len(others)):
            taken = [party for party, is_in in zip(others, taking) if is_in]
            if len(self.ratings([e] + taken)) != 2 * self.side:
                continue
            for parting in product((True, False), repeat=len(taken)):
                first = [e] + [party for party, is_in in zip(taken, parting) if is_in]
                second = [party for party, is_in in zip(taken, parting) if not is_in]
                if not self.may_play(first, second):
                    continue
                value = self.value(first, second)
                if best is None or value < best[0]:
                    best = (value, first, second)
        return best

    def make_one(self):
        for e in self.waiting:
            best = self.best(e)
            if best is not None:
                gone = best[1] + best[2]
                self.waiting = [party for party in self.waiting if party not in gone]
                sides = [[who for party in row for who in party["who"]] for row in best[1:]]
                number = self.number()
                self.matches[number] = sides
                return [number] + sides[0] + sides[1]
        return []

    def any_may_play(self):
        return any(self.best(e) is not None for e in self.waiting)

    def end(self, number, came):
        sides = [[self.people[who] for who in side] for side in self.matches.pop(number)]
        first, second = [[person["rating"] for person in side] for side in sides]
        far = self.reach * self.side
        d = min(far, max(-far, sum(first) - sum(second)))
        moved = floor(Fraction(self.factor * (came * far - (far + d)), 2 * far) + Fraction(1, 2))
        if moved > 0:
            moved = min(moved, min(second), TOP - max(first))
        if moved < 0:
            moved = max(moved, -min(first), -(TOP - max(second)))
        for side, sign, winning in zip(sides, (1, -1), (2, 0)):
            for person in side:
                person["rating"] += sign * moved
                person["games"] += 1
                person["wins"] += 1 if came == winning else 0
        return moved

    def whereabouts(self, who):
        if any(who in party["who"] for party in self.waiting):
            return 1
        if any(who in side for sides in self.matches.values() for side in sides):
            return 2
        return 0

    def total(self):
        return sum(person["rating"] for person in self.people.values()) + self.pool

    def told(self, call):
        """What is answered to one call."""
        told = call[2:] if call[0] == 2 else call[1:]
        return getattr(self, "call_" + str(call[0]))(*told)

    def call_0(self, *rules):
        ranges = ((1, 3), (0, TOP), (1, 1000000), (0, 1000000), (1, TOP), (0, 1000000))
        if any(not low <= rule <= high for rule, (low, high) in zip(rules, ranges)):
            return [-1]
        self.begin(*rules)
        return [0]

    def call_1(self, number, rating):
        if not (1 <= number <= 999 and 0 <= rating <= TOP):
            return [-1]
        if number in self.people:
            return [-3]
        if len(self.people) == 24:
            return [-5]
        self.people[number] = {"rating": rating, "games": 0, "wins": 0, "left": 0}
        return [0, len(self.people)]

    def call_2(self, *row):
        if not 1 <= len(row) <= self.side or len(set(row)) != len(row):
            return [-1]
        if any(not 1 <= who <= 999 for who in row):
            return [-1]
        if any(who not in self.people for who in row):
            return [-2]
        if any(self.whereabouts(who) for who in row):
            return [-3]
        if len(self.waiting) == 12:
            return [-5]
        self.waiting.append({"number": self.number(), "who": list(row), "since": self.now})
        return [0, self.waiting[-1]["number"]]

    def call_3(self, number):
        left = [party for party in self.waiting if party["number"] != number]
        if len(left) == len(self.waiting):
            return [-2]
        self.waiting = left
        return [0]

    def call_4(self, k):
        if not 1 <= k <= 50:
            return [-1]
        if self.now + k > 1000000:
            return [-5]
        made = []
        for _ in range(k):
            self.now += 1
            one = self.make_one()
            while one:
                made.extend(one)
                one = self.make_one()
        return [0, self.now] + made

    def call_5(self, number, came):
        if not 0 <= came <= 2:
            return [-1]
        if number not in self.matches:
            return [-2]
        return [0, self.end(number, came)]

    def call_6(self, number, who):
        if number not in self.matches:
            return [-2]
        if who in self.matches[number][0]:
            came = 0
        elif who in self.matches[number][1]:
            came = 2
        else:
            return [-4]
        moved = self.end(number, came)
        paid = min(self.fine, self.people[who]["rating"])
        self.people[who]["rating"] -= paid
        self.people[who]["left"] += 1
        self.pool += paid
        return [0, moved, paid]

    def call_7(self, who):
        if who not in self.people:
            return [-2]
        person = self.people[who]
        return [0, person["rating"], person["games"], person["wins"], person["left"], self.whereabouts(who)]

    def call_8(self):
        rows = sorted((-person["rating"], person["games"], who) for who, person in self.people.items())
        return [0] + [number for row in rows for number in (row[2], -row[0])]

    def call_9(self):
        answer = [0]
        for party in self.waiting:
            answer += [party["number"], party["since"], self.window(party), len(party["who"])] + party["who"]
        return answer
