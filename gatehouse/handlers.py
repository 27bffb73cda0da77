"""The calls: what each one takes, refuses and answers."""

from gatehouse.events import arrive, calm, send, tick
from gatehouse.market import Market
from gatehouse.net import describe
from gatehouse.sheets import write_amount

ACCEPTED = 0
OUT_OF_RANGE = -1
NOTHING_OPEN = -2
NO_SUCH_PARTY = -3
NO_SUCH_QUARTER = -4
NO_MORE_VERSIONS = -5
NO_SUCH_MESSAGE = -6
NET_IS_FULL = -7

CALL_OPEN = 0
LAST_VERSION = 50

# For each call, the least and the greatest of each of its numbers.
RANGES = {
    0: ((2, 4), (1, 3), (1, 100)),
    1: ((1, 4), (1, 4), (1, 3), (-1000000000, 1000000000)),
    2: ((1, 4),),
    3: ((1, 4),),
    4: (),
    5: ((1, 40),),
    6: ((1, 40),),
    7: ((1, 40),),
    8: ((1, 5),),
    9: ((1, 4),),
}


# An open call puts a whole new market in the place of the one before, so the
# market is kept here and not by itself; it is None while nothing is open.
class Session:
    def __init__(self):
        self.market = None


def write_call(market, numbers):
    number = numbers[0]
    other = numbers[1]
    quarter = numbers[2]
    if number > market.party_count or other > market.party_count or number == other:
        return [NO_SUCH_PARTY]
    if quarter > market.quarter_count:
        return [NO_SUCH_QUARTER]
    write_amount(market.party_of(number).draft, other, quarter, numbers[3])
    return [ACCEPTED]


def clear_call(market, numbers):
    number = numbers[0]
    if number > market.party_count:
        return [NO_SUCH_PARTY]
    party = market.party_of(number)
    party.draft = {}
    return [ACCEPTED]


def send_call(market, numbers):
    number = numbers[0]
    if number > market.party_count:
        return [NO_SUCH_PARTY]
    party = market.party_of(number)
    if party.version >= LAST_VERSION:
        return [NO_MORE_VERSIONS]
    send(market, number)
    return [ACCEPTED, party.version]


def as_number(truth):
    return 1 if truth else 0


def tell_tick(market):
    return [ACCEPTED, market.time, as_number(market.closed), market.net.under_way()]


def tick_call(market, numbers):
    tick(market)
    return tell_tick(market)


def deliver_call(market, numbers):
    place = numbers[0]
    if place > market.net.under_way():
        return [NO_SUCH_MESSAGE]
    message = market.net.take(place)
    arrive(market, message)
    return [ACCEPTED] + describe(message)


def lose_call(market, numbers):
    place = numbers[0]
    if place > market.net.under_way():
        return [NO_SUCH_MESSAGE]
    market.net.take(place)
    return [ACCEPTED]


def double_call(market, numbers):
    place = numbers[0]
    if place > market.net.under_way():
        return [NO_SUCH_MESSAGE]
    if market.net.full():
        return [NET_IS_FULL]
    market.net.double(place)
    return [ACCEPTED]


def calm_call(market, numbers):
    calm(market, numbers[0])
    return tell_tick(market)


def party_call(market, numbers):
    number = numbers[0]
    if number > market.party_count:
        return [NO_SUCH_PARTY]
    party = market.party_of(number)
    waits = as_number(party.waits)
    too_late = as_number(party.too_late)
    believes = as_number(party.belief is not None)
    return [ACCEPTED, party.version, party.acked, waits, too_late, believes]


HANDLERS = {
    1: write_call,
    2: clear_call,
    3: send_call,
    4: tick_call,
    5: deliver_call,
    6: lose_call,
    7: double_call,
    8: calm_call,
    9: party_call,
}


def width_of(call):
    return len(RANGES[call])


def in_ranges(call, numbers):
    for value, bounds in zip(numbers, RANGES[call]):
        if value < bounds[0] or value > bounds[1]:
            return False
    return True


def answer_call(session, call, numbers):
    if not in_ranges(call, numbers):
        return [OUT_OF_RANGE]
    if call == CALL_OPEN:
        session.market = Market(numbers[0], numbers[1], numbers[2])
        return [ACCEPTED]
    if session.market is None:
        return [NOTHING_OPEN]
    handler = HANDLERS[call]
    return handler(session.market, numbers)
