"""What there is once a market is open: its parties, the house's books, the net."""

from gatehouse.net import Net
from gatehouse.sheets import match_amounts, read_amount, write_amount


# Only the draft is ever changed in place: a sheet that was sent is shared by
# the party, the net and the house.
class Party:
    def __init__(self):
        self.draft = {}
        self.sent = {}
        self.version = 0
        self.acked = 0
        self.waits = False
        self.too_late = False
        self.belief = None


# What the house holds for one party.
class Account:
    def __init__(self):
        self.version = 0
        self.sheet = {}
        self.seen = False


class Market:
    def __init__(self, party_count, quarter_count, gate):
        self.party_count = party_count
        self.quarter_count = quarter_count
        self.gate = gate
        self.time = 0
        self.closed = False
        self.parties = [Party() for place in range(party_count)]
        self.accounts = [Account() for place in range(party_count)]
        self.net = Net()

    def party_of(self, number):
        return self.parties[number - 1]

    def account_of(self, number):
        return self.accounts[number - 1]


def held_amount(market, number, other, quarter):
    return read_amount(market.account_of(number).sheet, other, quarter)


def matched_sheet(market, number):
    matched = {}
    for other in range(1, market.party_count + 1):
        for quarter in range(1, market.quarter_count + 1):
            own = held_amount(market, number, other, quarter)
            theirs = held_amount(market, other, number, quarter)
            write_amount(matched, other, quarter, match_amounts(own, theirs))
    return matched


def matched_sum(market, number, quarter):
    matched = matched_sheet(market, number)
    return sum([read_amount(matched, other, quarter) for other in range(1, market.party_count + 1)])


def list_unmatched(market):
    unmatched = []
    for number in range(1, market.party_count + 1):
        for other in range(number + 1, market.party_count + 1):
            for quarter in range(1, market.quarter_count + 1):
                own = held_amount(market, number, other, quarter)
                theirs = held_amount(market, other, number, quarter)
                if own != -theirs:
                    unmatched.extend([number, other, quarter, own, theirs])
    return unmatched
