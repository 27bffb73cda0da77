"""Promises 2, 3 and 4, after every call of many lines."""

import copy
import random
import unittest

from gatehouse.events import calm
from gatehouse.handlers import Session, answer_call
from gatehouse.market import matched_sheet

CALM = 8
PLACES = (5, 6, 7)


def any_write(dice):
    one, other = dice.sample([1, 2, 3, 4], 2)
    amount = dice.choice([0, 1, 2, 3, 10 ** 9])
    # Mostly the lesser party delivers to the greater one, so that there is something to match.
    taken = (one > other) != (dice.randrange(6) == 0)
    return [one, other, dice.randint(1, 3), -amount if taken else amount]


def any_call(dice):
    number = dice.choices(range(10), [0, 15, 1, 12, 6, 40, 4, 5, 1, 0])[0]
    if number == 1:
        return number, any_write(dice)
    if number in PLACES:
        return number, [dice.randint(1, 6)]
    if number == CALM:
        return number, [dice.randint(1, 2)]
    return number, [] if number == 4 else [dice.randint(1, 4)]


class Promises(unittest.TestCase):
    def walk(self, seed):
        """Each state of one line: the session, and what each party sent with each version."""
        dice = random.Random(seed)
        session = Session()
        parties = dice.randint(2, 4)
        answer_call(session, 0, [parties, dice.randint(1, 3), dice.choice([1, 4, 5, 6, 8, 100])])
        for place in range(40):
            answer_call(session, 1, any_write(dice))
        sent = {(number, 0): {} for number in range(1, parties + 1)}
        for place in range(120):
            number, numbers = any_call(dice)
            answer = answer_call(session, number, numbers)
            if number == 3 and answer[0] == 0:
                sent[(numbers[0], answer[1])] = dict(session.market.party_of(numbers[0]).draft)
            yield session.market, sent

    def test_promise_2_the_house_holds_what_was_sent_with_that_version(self):
        held = 0
        for seed in range(80):
            for market, sent in self.walk(seed):
                for number in range(1, market.party_count + 1):
                    account = market.account_of(number)
                    self.assertEqual(account.sheet, sent[(number, account.version)])
                    held = max(held, account.version)
        self.assertGreater(held, 3)

    def test_promise_3_what_is_matched_adds_up_to_0(self):
        matched = 0
        for seed in range(80):
            for market, sent in self.walk(seed):
                sheets = [matched_sheet(market, number) for number in range(1, market.party_count + 1)]
                matched += sum(len(sheet) for sheet in sheets)
                for quarter in range(1, market.quarter_count + 1):
                    amounts = [sheet[key] for sheet in sheets for key in sheet if key[1] == quarter]
                    self.assertEqual(sum(amounts), 0)
        self.assertGreater(matched, 100)

    def test_promise_3_a_party_believes_what_is_matched_for_it(self):
        rows = 0
        for seed in range(80):
            for market, sent in self.walk(seed):
                for number in range(1, market.party_count + 1):
                    belief = market.party_of(number).belief
                    if belief is not None:
                        rows += len(belief)
                        self.assertEqual(belief, matched_sheet(market, number))
        self.assertGreater(rows, 100)

    def test_promise_4_two_calms_later(self):
        waited = 0
        believed = 0
        for seed in range(40):
            for market, sent in self.walk(seed):
                later = copy.deepcopy(market)
                calm(later, 1)
                calm(later, 1)
                for number in range(1, market.party_count + 1):
                    party = later.party_of(number)
                    waited += market.party_of(number).waits
                    self.assertFalse(party.waits)
                    if market.closed:
                        believed += market.party_of(number).belief is None
                        self.assertEqual(party.belief, matched_sheet(later, number))
        self.assertGreater(waited, 100)
        self.assertGreater(believed, 100)

    def test_promise_4_when_the_net_was_full(self):
        session = Session()
        answer_call(session, 0, [4, 3, 1])
        for number in (1, 2, 3, 4):
            answer_call(session, 3, [number])
        for place in range(20):
            answer_call(session, 4, [])
        self.assertEqual(session.market.net.under_way(), 40)
        self.assertEqual(answer_call(session, CALM, [1])[0], 0)
        self.assertEqual(answer_call(session, CALM, [1])[0], 0)
        for number in (1, 2, 3, 4):
            self.assertEqual(answer_call(session, 9, [number])[3], 0)
            self.assertEqual(answer_call(session, 9, [number])[5], 1)


if __name__ == "__main__":
    unittest.main()
