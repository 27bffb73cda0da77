"""What happens in a market: sending, a message's arrival, a tick."""

from gatehouse.market import matched_sheet
from gatehouse.net import KIND_HAVE, KIND_LATE, KIND_MATCHED, KIND_SEEN, KIND_SHEET, Message


def post_sent_sheet(market, number):
    party = market.party_of(number)
    market.net.post(Message(KIND_SHEET, number, party.version, party.sent))


def send(market, number):
    party = market.party_of(number)
    party.version = party.version + 1
    # The draft goes on being changed; what was sent must not change with it.
    party.sent = dict(party.draft)
    party.waits = True
    party.too_late = False
    post_sent_sheet(market, number)


def arrive(market, message):
    if message.kind == KIND_SHEET:
        receive_sheet(market, message)
    elif message.kind == KIND_HAVE:
        receive_have(market, message)
    elif message.kind == KIND_LATE:
        receive_late(market, message)
    elif message.kind == KIND_MATCHED:
        receive_matched(market, message)
    else:
        receive_seen(market, message)


def receive_sheet(market, message):
    account = market.account_of(message.party)
    reply = KIND_HAVE
    if message.version > account.version:
        if market.closed:
            reply = KIND_LATE
        else:
            account.version = message.version
            account.sheet = message.sheet
    market.net.post(Message(reply, message.party, message.version, {}))


def receive_have(market, message):
    party = market.party_of(message.party)
    party.acked = max(party.acked, message.version)
    if message.version == party.version:
        party.waits = False


def receive_late(market, message):
    party = market.party_of(message.party)
    if message.version == party.version:
        party.waits = False
        party.too_late = True


def receive_matched(market, message):
    party = market.party_of(message.party)
    party.belief = message.sheet
    market.net.post(Message(KIND_SEEN, message.party, 0, {}))


def receive_seen(market, message):
    account = market.account_of(message.party)
    account.seen = True


def tick(market):
    market.time = market.time + 1
    if market.time >= market.gate:
        market.closed = True
    post_again(market)
    if market.closed:
        post_confirmations(market)


def post_again(market):
    for number in range(1, market.party_count + 1):
        if market.party_of(number).waits:
            post_sent_sheet(market, number)


def post_confirmations(market):
    for number in range(1, market.party_count + 1):
        if not market.account_of(number).seen:
            market.net.post(Message(KIND_MATCHED, number, 0, matched_sheet(market, number)))


def calm(market, rounds):
    for done in range(rounds):
        while market.net.under_way() > 0:
            arrive(market, market.net.take(1))
        tick(market)
