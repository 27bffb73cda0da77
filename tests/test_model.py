"""Promise 1: every answer as told, for long lines of calls.

The model below is written straight from the document in another form than the
program: all state in flat dicts, sheets with their zeros, messages as tuples.
"""

import random
import unittest

from gatehouse.nominations import answers
from tests.helper import BILLION, HUGE, line, split

RANGES = [
    [(2, 4), (1, 3), (1, 100)], [(1, 4), (1, 4), (1, 3), (-BILLION, BILLION)], [(1, 4)], [(1, 4)], [], [(1, 40)],
    [(1, 40)], [(1, 40)], [(1, 5)], [(1, 4)], [(1, 4)], [(1, 4)], [(1, 4)], [(1, 4)], [(1, 4)], [], [], [], [(1, 3)],
]
NAMES = [
    "begin", "write", "clear", "send", "tick", "deliver", "lose", "double", "calm", "party", "house", "draft", "held",
    "final", "belief", "flying", "unmatched", "now", "total",
]


class Model:
    def __init__(self):
        self.state = None

    def answer(self, call):
        number, numbers = call[0], call[1:]
        if any(not least <= value <= most for value, (least, most) in zip(numbers, RANGES[number])):
            return [-1]
        if number == 0:
            self.begin(*numbers)
            return [0]
        if self.state is None:
            return [-2]
        return getattr(self, NAMES[number])(*numbers)

    def begin(self, parties, quarters, gate):
        everyone = range(1, parties + 1)
        blank = {(r, q): 0 for r in everyone for q in range(1, quarters + 1)}
        self.blank = blank
        self.everyone = everyone
        self.quarters = quarters
        self.gate = gate
        self.state = {"time": 0, "closed": 0, "net": []}
        for p in everyone:
            self.state["draft", p] = dict(blank)
            self.state["sent", p] = dict(blank)
            self.state["held", p] = dict(blank)
            self.state["belief", p] = None
            for word in ("version", "acked", "waits", "late", "house", "seen"):
                self.state[word, p] = 0

    def post(self, *message):
        if len(self.state["net"]) < 40:
            self.state["net"] = self.state["net"] + [message]

    def take(self, place):
        net = self.state["net"]
        self.state["net"] = net[:place - 1] + net[place:]
        return net[place - 1]

    def write(self, p, r, q, amount):
        if p not in self.everyone or r not in self.everyone or p == r:
            return [-3]
        if q > self.quarters:
            return [-4]
        self.state["draft", p] = {**self.state["draft", p], (r, q): amount}
        return [0]

    def clear(self, p):
        if p not in self.everyone:
            return [-3]
        self.state["draft", p] = dict(self.blank)
        return [0]

    def send(self, p):
        if p not in self.everyone:
            return [-3]
        s = self.state
        if s["version", p] == 50:
            return [-5]
        s["version", p] += 1
        s["sent", p] = s["draft", p]
        s["waits", p] = 1
        s["late", p] = 0
        self.post(1, p, s["version", p], s["sent", p])
        return [0, s["version", p]]

    def tick(self):
        s = self.state
        s["time"] += 1
        if s["time"] >= self.gate:
            s["closed"] = 1
        for p in self.everyone:
            if s["waits", p]:
                self.post(1, p, s["version", p], s["sent", p])
        for p in self.everyone:
            if s["closed"] and not s["seen", p]:
                self.post(4, p, 0, self.matched(p))
        return [0, s["time"], s["closed"], len(s["net"])]

    def matched(self, p):
        sheet = {}
        for r, q in self.blank:
            x = self.state["held", p][r, q]
            y = self.state["held", r][p, q]
            sheet[r, q] = 0
            if x * y < 0:
                sheet[r, q] = min(abs(x), abs(y)) * (1 if x > 0 else -1)
        return sheet

    def arrive(self, message):
        kind, p, version, sheet = message
        s = self.state
        if kind == 1 and version <= s["house", p]:
            self.post(2, p, version, {})
        elif kind == 1 and s["closed"]:
            self.post(3, p, version, {})
        elif kind == 1:
            s["house", p] = version
            s["held", p] = sheet
            self.post(2, p, version, {})
        elif kind == 2:
            if version > s["acked", p]:
                s["acked", p] = version
            if version == s["version", p]:
                s["waits", p] = 0
        elif kind == 3:
            if version == s["version", p]:
                s["waits", p] = 0
                s["late", p] = 1
        elif kind == 4:
            s["belief", p] = sheet
            self.post(5, p, 0, {})
        elif kind == 5:
            s["seen", p] = 1

    def deliver(self, place):
        if place > len(self.state["net"]):
            return [-6]
        message = self.take(place)
        self.arrive(message)
        return [0] + self.shown(message)

    def shown(self, message):
        rows = [amount for amount in message[3].values() if amount != 0]
        return [message[0], message[1], message[2], len(rows)]

    def lose(self, place):
        if place > len(self.state["net"]):
            return [-6]
        self.take(place)
        return [0]

    def double(self, place):
        if place > len(self.state["net"]):
            return [-6]
        if len(self.state["net"]) == 40:
            return [-7]
        self.post(*self.state["net"][place - 1])
        return [0]

    def calm(self, rounds):
        for done in range(rounds):
            while self.state["net"]:
                self.arrive(self.take(1))
            answer = self.tick()
        return answer

    def party(self, p):
        if p not in self.everyone:
            return [-3]
        s = self.state
        believes = 0 if s["belief", p] is None else 1
        return [0, s["version", p], s["acked", p], s["waits", p], s["late", p], believes]

    def house(self, p):
        if p not in self.everyone:
            return [-3]
        return [0, self.state["house", p], self.state["seen", p]]

    def rows(self, sheet):
        # The blank sheet was made by party and then by quarter, so a walk along it is in the order of rows.
        return [0] + [number for key in self.blank if sheet[key] != 0 for number in (*key, sheet[key])]

    def draft(self, p):
        return self.rows(self.state["draft", p]) if p in self.everyone else [-3]

    def held(self, p):
        return self.rows(self.state["held", p]) if p in self.everyone else [-3]

    def final(self, p):
        if p not in self.everyone:
            return [-3]
        return self.rows(self.matched(p)) if self.state["closed"] else [-8]

    def belief(self, p):
        if p not in self.everyone:
            return [-3]
        sheet = self.state["belief", p]
        return [-8] if sheet is None else self.rows(sheet)

    def flying(self):
        return sum([self.shown(message) for message in self.state["net"]], [0])

    def unmatched(self):
        answer = [0]
        for p in self.everyone:
            for r, q in self.blank:
                one = self.state["held", p][r, q]
                other = self.state["held", r][p, q]
                if p < r and one + other != 0:
                    answer += [p, r, q, one, other]
        return answer

    def now(self):
        return [0, self.state["time"], self.state["closed"]]

    def total(self, quarter):
        if quarter > self.quarters:
            return [-4]
        return [0] + [sum(amount for (r, q), amount in self.matched(p).items() if q == quarter) for p in self.everyone]


def any_number(dice, least, greatest):
    roll = dice.randrange(40)
    if roll == 0:
        return dice.choice([least - 1, greatest + 1, -HUGE, HUGE, 0, -1])
    if roll < 4:
        return dice.choice([least, greatest])
    if greatest == BILLION:
        return dice.randint(-3, 3)
    return dice.randint(least, greatest)


def any_place(dice):
    roll = dice.randrange(20)
    if roll == 0:
        return any_number(dice, 1, 40)
    return dice.randint(1, 3) if roll < 16 else dice.randint(1, 12)


def any_call(dice, weights):
    number = dice.choices(range(19), weights)[0]
    if number in (5, 6, 7):
        return (number, any_place(dice))
    if number == 0:
        return (0, any_number(dice, 2, 4), any_number(dice, 1, 3), dice.choice([1, 2, 3, 5, 9, 20, 100, 101]))
    return (number,) + tuple(any_number(dice, *bounds) for bounds in RANGES[number])


# How often each of the calls 0 to 8 comes: even; a net that fills; a net that is emptied; many sends; few opens;
# much that is matched. Behind it, how often each of the ten questions comes.
WEIGHTS = [
    [1] * 9 + [1] * 10,
    [0, 8, 1, 12, 8, 3, 1, 8, 0] + [1] * 10,
    [0, 12, 1, 10, 3, 25, 3, 4, 1] + [3] * 10,
    [0, 3, 1, 60, 2, 20, 10, 2, 1] + [2] * 10,
    [1, 20, 2, 15, 10, 40, 5, 8, 4] + [4] * 10,
    [0, 30, 0, 10, 2, 30, 1, 1, 0] + [3] * 10,
]
REFUSALS = [
    [], [-3, -4], [-3], [-3, -5], [], [-6], [-6], [-6, -7], [], [-3], [-3], [-3], [-3], [-3, -8], [-3, -8], [], [], [],
    [-4],
]
WITHOUT_NUMBERS = (4, 15, 16, 17)


class AgainstTheModel(unittest.TestCase):
    def compare(self, calls):
        model = Model()
        expected = [model.answer(call) for call in calls]
        given = split(answers(line(calls)))
        for place, call in enumerate(calls):
            if given[place] != expected[place]:
                self.fail(f"{calls[:place + 1]}: {given[place]}, expected {expected[place]}")
        self.assertEqual(len(given), len(calls))
        return expected

    def test_long_lines(self):
        met = {}
        longest = {}
        for seed in range(300):
            dice = random.Random(seed)
            weights = WEIGHTS[seed % len(WEIGHTS)]
            calls = [(0, dice.randint(2, 4), dice.randint(1, 3), dice.choice([1, 3, 8, 30, 100]))]
            calls += [any_call(dice, weights) for place in range(399)]
            for call, answer in zip(calls, self.compare(calls)):
                key = (call[0], min(answer[0], 0), answer[1] if call[0] == 5 and answer[0] == 0 else 0)
                met[key] = met.get(key, 0) + 1
                longest[call[0]] = max(longest.get(call[0], 0), len(answer))
        # Each call's every way was met, each kind of message arrived, and the questions had something to tell.
        for number, refusals in enumerate(REFUSALS):
            for refusal in refusals + ([] if number in WITHOUT_NUMBERS else [-1]):
                self.assertIn((number, refusal, 0), met)
            self.assertTrue(any(key[:2] == (number, 0) for key in met))
        for kind in (1, 2, 3, 4, 5):
            self.assertIn((5, 0, kind), met)
        self.assertGreater(min(longest[number] for number in (11, 12, 13, 14)), 9)
        self.assertEqual(longest[15], 161)
        self.assertGreater(longest[16], 40)

    def test_short_lines_from_nothing_open(self):
        for seed in range(400):
            dice = random.Random(1000 + seed)
            self.compare([any_call(dice, WEIGHTS[0]) for place in range(dice.randint(1, 12))])


if __name__ == "__main__":
    unittest.main()
