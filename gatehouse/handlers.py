"""The calls: what each one takes, refuses and answers."""

from gatehouse.events import arrive, calm, send, tick
from gatehouse.market import Market, list_unmatched, matched_sheet, matched_sum
from gatehouse.net import describe, describe_all
from gatehouse.sheets import list_rows, write_amount

ACCEPTED = 0
OUT_OF_RANGE = -1
NOTHING_OPEN = -2
NO_SUCH_PARTY = -3
NO_SUCH_QUARTER = -4
NO_MORE_VERSIONS = -5
NO_SUCH_MESSAGE = -6
NET_IS_FULL = -7
NOT_YET = -8

CALL_OPEN = 0
LAST_VERSION = 50

# For each call, the least and the greatest of each of its numbers.
RANGES = {
    0: ((2, 4), (1, 3), (1, 100)),
    1: ((1, 4), (1, 4), (1, 3), (-1000000000, 1000000000)),
    2: ((1, 4),),
    3: ((1, 4),),
    4: (),
    5: ((1, 40),),
    6: ((1, 40),),
    7: ((1, 40),),
    8: ((1, 5),),
    9: ((1, 4),),
    10: ((1, 4),),
    11: ((1, 4),),
    12: ((1, 4),),
    13: ((1, 4),),
    14: ((1, 4),),
    15: (),
    16: (),
    17: (),
    18: ((1, 3),),
}

# The calls whose first number is a party. That there is such a party is looked
# at for all of them in one place, as it comes before what each one refuses itself.
PARTY_CALLS = (1, 2, 3, 9, 10, 11, 12, 13, 14)


# An open call puts a whole new market in the place of the one before, so the
# market is kept here and not by itself; it is None while nothing is open.
class Session:
    def __init__(self):
        self.market = None


def write_call(market, numbers):
    number = numbers[0]
    other = numbers[1]
    quarter = numbers[2]
    if other > market.party_count or number == other:
        return [NO_SUCH_PARTY]
    if quarter > market.quarter_count:
        return [NO_SUCH_QUARTER]
    write_amount(market.party_of(number).draft, other, quarter, numbers[3])
    return [ACCEPTED]


def clear_call(market, numbers):
    party = market.party_of(numbers[0])
    party.draft = {}
    return [ACCEPTED]


def send_call(market, numbers):
    number = numbers[0]
    party = market.party_of(number)
    if party.version >= LAST_VERSION:
        return [NO_MORE_VERSIONS]
    send(market, number)
    return [ACCEPTED, party.version]


def as_number(truth):
    return 1 if truth else 0


def tell_tick(market):
    return [ACCEPTED, market.time, as_number(market.closed), market.net.under_way()]


def tick_call(market, numbers):
    tick(market)
    return tell_tick(market)


def deliver_call(market, numbers):
    place = numbers[0]
    if place > market.net.under_way():
        return [NO_SUCH_MESSAGE]
    message = market.net.take(place)
    arrive(market, message)
    return [ACCEPTED] + describe(message)


def lose_call(market, numbers):
    place = numbers[0]
    if place > market.net.under_way():
        return [NO_SUCH_MESSAGE]
    market.net.take(place)
    return [ACCEPTED]


def double_call(market, numbers):
    place = numbers[0]
    if place > market.net.under_way():
        return [NO_SUCH_MESSAGE]
    if market.net.full():
        return [NET_IS_FULL]
    market.net.double(place)
    return [ACCEPTED]


def calm_call(market, numbers):
    calm(market, numbers[0])
    return tell_tick(market)


def party_call(market, numbers):
    party = market.party_of(numbers[0])
    waits = as_number(party.waits)
    too_late = as_number(party.too_late)
    believes = as_number(party.belief is not None)
    return [ACCEPTED, party.version, party.acked, waits, too_late, believes]


def house_call(market, numbers):
    account = market.account_of(numbers[0])
    return [ACCEPTED, account.version, as_number(account.seen)]


def draft_call(market, numbers):
    return [ACCEPTED] + list_rows(market.party_of(numbers[0]).draft)


def held_call(market, numbers):
    return [ACCEPTED] + list_rows(market.account_of(numbers[0]).sheet)


def final_call(market, numbers):
    if not market.closed:
        return [NOT_YET]
    return [ACCEPTED] + list_rows(matched_sheet(market, numbers[0]))


def belief_call(market, numbers):
    belief = market.party_of(numbers[0]).belief
    # Nothing matched is believed too: an empty sheet isn't the same as none.
    if belief is None:
        return [NOT_YET]
    return [ACCEPTED] + list_rows(belief)


def flying_call(market, numbers):
    return [ACCEPTED] + describe_all(market.net)


def unmatched_call(market, numbers):
    return [ACCEPTED] + list_unmatched(market)


def now_call(market, numbers):
    return [ACCEPTED, market.time, as_number(market.closed)]


def total_call(market, numbers):
    quarter = numbers[0]
    if quarter > market.quarter_count:
        return [NO_SUCH_QUARTER]
    return [ACCEPTED] + [matched_sum(market, number, quarter) for number in range(1, market.party_count + 1)]


HANDLERS = {
    1: write_call,
    2: clear_call,
    3: send_call,
    4: tick_call,
    5: deliver_call,
    6: lose_call,
    7: double_call,
    8: calm_call,
    9: party_call,
    10: house_call,
    11: draft_call,
    12: held_call,
    13: final_call,
    14: belief_call,
    15: flying_call,
    16: unmatched_call,
    17: now_call,
    18: total_call,
}


def width_of(call):
    return len(RANGES[call])


def in_ranges(call, numbers):
    for value, bounds in zip(numbers, RANGES[call]):
        if value < bounds[0] or value > bounds[1]:
            return False
    return True


def answer_call(session, call, numbers):
    if not in_ranges(call, numbers):
        return [OUT_OF_RANGE]
    if call == CALL_OPEN:
        session.market = Market(numbers[0], numbers[1], numbers[2])
        return [ACCEPTED]
    market = session.market
    if market is None:
        return [NOTHING_OPEN]
    if call in PARTY_CALLS and numbers[0] > market.party_count:
        return [NO_SUCH_PARTY]
    handler = HANDLERS[call]
    return handler(market, numbers)
