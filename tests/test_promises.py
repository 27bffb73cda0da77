"""Promises 2, 3 and 4, over long lines drawn at random, as the answers of the calls show them.

Each line is asked again and again, each time one call longer, with questions
behind it; so every state that it goes through is looked at through the interface.
"""

import random
import unittest

from tests.helper import (
    after, belief, calm, clear, deliver, double, draft, final, flying, held, house, lose, now, open_, opened, party,
    run, send, tick, total, write,
)

LENGTH = 250
SEEDS = range(24)
NOT_YET = [-8]

# How often write, clear, send, tick, deliver, lose, double and calm come: a net that carries; one that loses and
# doubles much; one that fills; a market that has much to match and little to lose.
MOVES = (write, clear, send, tick, deliver, lose, double, calm)
WEIGHTS = [
    [15, 1, 12, 4, 40, 4, 5, 1],
    [15, 1, 15, 6, 30, 15, 15, 0],
    [8, 1, 12, 8, 5, 1, 8, 0],
    [30, 0, 10, 1, 40, 1, 1, 1],
]


class Line:
    """A line drawn at random."""

    def __init__(self, seed):
        self.dice = random.Random(seed)
        parties = self.dice.randint(2, 4)
        quarters = self.dice.randint(1, 3)
        self.everybody = range(1, parties + 1)
        self.quarters = range(1, quarters + 1)
        self.calls = [open_(parties, quarters, self.dice.choice([1, 3, 5, 8, 12, 100]))]
        while len(self.calls) < LENGTH:
            move = self.dice.choices(MOVES, WEIGHTS[seed % len(WEIGHTS)])[0]
            self.calls.append(self.drawn(move))

    def drawn(self, move):
        if move == write:
            return write(*self.drawn_amount())
        if move == tick:
            return tick()
        if move == calm:
            return calm(self.dice.randint(1, 2))
        if move in (clear, send):
            return move(self.dice.choice(self.everybody))
        return move(self.dice.randint(1, self.dice.choice([1, 3, 8, 40])))

    def drawn_amount(self):
        one, other = self.dice.sample(self.everybody, 2)
        amount = self.dice.choice([0, 1, 2, 3, 10 ** 9])
        # Mostly the lesser party delivers to the greater one, so that there is something to match.
        taken = (one > other) != (self.dice.randrange(6) == 0)
        return one, other, self.dice.choice(self.quarters), -amount if taken else amount

    def of_everybody(self, ask):
        return [ask(number) for number in self.everybody]

    def states(self, *questions):
        """What the questions answer after the first call, after two calls, and so on: a dict by question each."""
        for count in range(1, len(self.calls) + 1):
            yield dict(zip(questions, after(self.calls[:count], *questions)))


LINES = [Line(seed) for seed in SEEDS]


class LinesAreWorthIt(unittest.TestCase):
    def test_nets_fill_and_every_kind_arrives(self):
        fullest = 0
        kinds = set()
        for line in LINES:
            for call, answer in zip(line.calls, run(*line.calls)):
                if call[0] == 5 and answer[0] == 0:
                    kinds.add(answer[1])
            for state in line.states(flying()):
                fullest = max(fullest, len(state[flying()]) // 4)
        self.assertEqual((fullest, kinds), (40, {1, 2, 3, 4, 5}))


class PromiseTwo(unittest.TestCase):
    def test_the_house_holds_what_was_sent_with_that_version(self):
        greatest = 0
        rows = 0
        for line in LINES:
            sent = {(number, 0): [0] for number in line.everybody}
            questions = line.of_everybody(draft) + line.of_everybody(house) + line.of_everybody(held)
            for call, answer, state in zip(line.calls, run(*line.calls), line.states(*questions)):
                if call[0] == 3 and answer[0] == 0:
                    # The draft stays when it is sent, so what was sent shows in it right afterwards.
                    sent[(call[1], answer[1])] = state[draft(call[1])]
                for number in line.everybody:
                    version = state[house(number)][1]
                    self.assertEqual(state[held(number)], sent[(number, version)])
                    greatest = max(greatest, version)
                    rows = max(rows, len(state[held(number)]) // 3)
        self.assertGreater(greatest, 9)
        self.assertGreater(rows, 5)

    def test_the_version_held_never_goes_down_and_stays_when_the_books_are_closed(self):
        for line in LINES:
            before = None
            for state in line.states(now(), *line.of_everybody(house), *line.of_everybody(held)):
                for number in line.everybody if before is not None else ():
                    self.assertGreaterEqual(state[house(number)][1], before[house(number)][1])
                    if before[now()][2] == 1:
                        self.assertEqual(state[held(number)], before[held(number)])
                before = state


class PromiseThree(unittest.TestCase):
    def test_what_is_matched_adds_up_to_0_in_each_quarter(self):
        met = {True: 0, False: 0}
        for line in LINES:
            totals = [total(quarter) for quarter in line.quarters]
            for state in line.states(now(), *totals, *line.of_everybody(final)):
                closed = state[now()][2] == 1
                for quarter in line.quarters:
                    accepted, *sums = state[total(quarter)]
                    self.assertEqual((accepted, len(sums), sum(sums)), (0, len(line.everybody), 0))
                    met[closed] += any(sums)
                    if closed:
                        finals = [state[final(number)] for number in line.everybody]
                        self.assertEqual([self.sum_of(rows, quarter) for rows in finals], sums)
        # Both before the gate and after it there was something to add up.
        self.assertGreater(min(met.values()), 100)

    def sum_of(self, rows, quarter):
        return sum(rows[place + 2] for place in range(1, len(rows), 3) if rows[place + 1] == quarter)

    def test_a_party_that_believes_something_believes_what_is_matched_for_it(self):
        rows = 0
        for line in LINES:
            for state in line.states(*line.of_everybody(belief), *line.of_everybody(final), *line.of_everybody(party)):
                for number in line.everybody:
                    believed = state[belief(number)]
                    self.assertEqual(state[party(number)][5], 0 if believed == NOT_YET else 1)
                    if believed != NOT_YET:
                        self.assertEqual(believed, state[final(number)])
                        rows += len(believed) // 3
        self.assertGreater(rows, 1000)


class PromiseFour(unittest.TestCase):
    def check(self, line, count, *calms):
        """Look at everybody after these calms; tell how many had waited and how many had not believed."""
        parties = line.of_everybody(party)
        beliefs = line.of_everybody(belief)
        finals = line.of_everybody(final)
        given = after(line.calls[:count], now(), *parties, *beliefs, *calms, *parties, *beliefs, *finals)
        size = len(parties)
        closed = given[0][2] == 1
        waited = [answer[3] for answer in given[1:size + 1]]
        unbelieving = [answer == NOT_YET for answer in given[size + 1:2 * size + 1]]
        later = given[2 * size + 1 + len(calms):]
        self.assertEqual([answer[3] for answer in later[:size]], [0] * size)
        if closed:
            self.assertEqual(later[size:2 * size], later[2 * size:])
            self.assertNotIn(NOT_YET, later[size:])
        return sum(waited), sum(unbelieving) if closed else 0

    def check_everywhere(self, *calms):
        waited = 0
        unbelieving = 0
        for line in LINES:
            for count in range(1, len(line.calls) + 1):
                found = self.check(line, count, *calms)
                waited += found[0]
                unbelieving += found[1]
        # Where nobody waits and all believe, two calms have nothing to do.
        self.assertGreater(waited, 1000)
        self.assertGreater(unbelieving, 300)

    def test_two_calms_later(self):
        self.check_everywhere(calm(1), calm(1))

    def test_a_calm_of_two_rounds_later(self):
        self.check_everywhere(calm(2))

    def test_from_a_full_net(self):
        calls = opened(4, 3, 1) + [send(number) for number in (1, 2, 3, 4)] + [tick()] * 20
        self.assertEqual(run(*calls)[-1], [0, 20, 1, 40])
        everybody = [ask(number) for ask in (party, belief) for number in (1, 2, 3, 4)]
        self.assertEqual(after(calls + [calm(1), calm(1)], *everybody), [[0, 1, 0, 0, 1, 1]] * 4 + [[0]] * 4)


if __name__ == "__main__":
    unittest.main()
