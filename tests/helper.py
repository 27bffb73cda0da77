"""What the tests share: calls by name, lines made of calls, answers taken apart."""

from gatehouse.handlers import Session, answer_call
from gatehouse.nominations import answers

HUGE = 10 ** 18
BILLION = 10 ** 9


def named(number):
    return lambda *numbers: (number,) + numbers


open_ = named(0)
write = named(1)
clear = named(2)
send = named(3)
tick = named(4)
deliver = named(5)
lose = named(6)
double = named(7)
calm = named(8)
party = named(9)
house = named(10)
draft = named(11)
held = named(12)
final = named(13)
belief = named(14)
flying = named(15)
unmatched = named(16)
now = named(17)
total = named(18)

# Every call that only asks, with every number that it takes.
QUESTIONS = [ask(number) for ask in (party, house, draft, held, final, belief) for number in (1, 2, 3, 4)]
QUESTIONS += [flying(), unmatched(), now(), total(1), total(2), total(3)]


def line(calls):
    return [number for call in calls for number in call]


def split(flat):
    """Take a list of answers apart by their counts; a wrong count raises."""
    parts = []
    place = 0
    while place < len(flat):
        end = place + 1 + flat[place]
        if flat[place] < 1 or end > len(flat):
            raise AssertionError(f"count {flat[place]} at {place} of {flat}")
        parts.append(flat[place + 1:end])
        place = end
    return parts


def run(*calls):
    """The answer of each call of a line, through the interface."""
    parts = split(answers(line(calls)))
    if len(parts) != len(calls):
        raise AssertionError(f"{len(calls)} calls, {len(parts)} answers")
    return parts


def last(*calls):
    return run(*calls)[-1]


def after(calls, *probes):
    """The answers of the probes alone, made behind the calls."""
    return run(*calls, *probes)[len(calls):]


def opened(parties=4, quarters=3, gate=100):
    return [open_(parties, quarters, gate)]


def filled(count, parties=4, quarters=3, gate=100):
    """Calls after which the net has that many messages: 1 1 1 0, doubled."""
    calls = opened(parties, quarters, gate)
    if count > 0:
        calls.append(send(1))
    return calls + [double(1)] * (count - 1)


def arrived(*writes, parties=4, quarters=3, gate=100):
    """Calls after which the house holds, for each party, the amounts that it wrote; the net is empty, the time 0."""
    calls = opened(parties, quarters, gate) + [write(*numbers) for numbers in writes]
    calls += [send(number) for number in range(1, parties + 1)]
    return calls + [deliver(1)] * (2 * parties)


def performed(calls):
    """The session after these calls, to look at what no call answers, such as the sheets of messages."""
    session = Session()
    for call in calls:
        answer_call(session, call[0], list(call[1:]))
    return session


def snapshot(value):
    """All that an object holds, as plain values that can be compared."""
    if isinstance(value, list):
        return [snapshot(member) for member in value]
    if isinstance(value, dict):
        return dict(value)
    if hasattr(value, "__dict__"):
        return {name: snapshot(member) for name, member in vars(value).items()}
    return value


def in_net(calls):
    """The net after these calls: kind, party, version, sheet of each message."""
    messages = performed(calls).market.net.messages
    return [(m.kind, m.party, m.version, dict(m.sheet)) for m in messages]


def in_net_short(calls):
    return [(kind, number, version) for kind, number, version, sheet in in_net(calls)]
