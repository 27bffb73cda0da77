"""The net and the messages that it carries."""

from gatehouse.sheets import count_rows

MOST_MESSAGES = 40

KIND_SHEET = 1
KIND_HAVE = 2
KIND_LATE = 3
KIND_MATCHED = 4
KIND_SEEN = 5


# Nothing changes a message once it is made, so one may be in the net twice.
class Message:
    def __init__(self, kind, party, version, sheet):
        self.kind = kind
        self.party = party
        self.version = version
        self.sheet = sheet


class Net:
    def __init__(self):
        self.messages = []

    def under_way(self):
        return len(self.messages)

    def full(self):
        return len(self.messages) >= MOST_MESSAGES

    def post(self, message):
        # What a full net loses is lost in silence: nobody who posts is told.
        if not self.full():
            self.messages.append(message)

    def take(self, place):
        return self.messages.pop(place - 1)

    def double(self, place):
        self.post(self.messages[place - 1])


def describe(message):
    return [message.kind, message.party, message.version, count_rows(message.sheet)]


def describe_all(net):
    described = []
    for message in net.messages:
        described.extend(describe(message))
    return described
