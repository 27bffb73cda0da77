"""The program's interface: a line of calls in, their answers out."""

from gatehouse.handlers import Session, answer_call, width_of


def answers(calls):
    session = Session()
    answered = []
    place = 0
    while place < len(calls):
        call = calls[place]
        first = place + 1
        place = first + width_of(call)
        answer = answer_call(session, call, calls[first:place])
        answered.append(len(answer))
        answered.extend(answer)
    return answered
