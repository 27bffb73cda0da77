"""Refusals: the ranges, the order in which they are looked at, nothing changed."""

import unittest

from tests.helper import (
    BILLION, HUGE, QUESTIONS, after, answers, arrived, belief, calm, clear, deliver, double, draft, filled, final,
    flying, held, house, last, line, lose, now, open_, opened, party, performed, run, send, snapshot, tick, total,
    unmatched, write,
)

# For each call: one that is accepted where there is all of everything, and
# each number's least and greatest.
CALLS = {
    "open": (open_(3, 2, 50), [(2, 4), (1, 3), (1, 100)]),
    "write": (write(2, 3, 2, 7), [(1, 4), (1, 4), (1, 3), (-BILLION, BILLION)]),
    "clear": (clear(2), [(1, 4)]),
    "send": (send(2), [(1, 4)]),
    "tick": (tick(), []),
    "deliver": (deliver(2), [(1, 40)]),
    "lose": (lose(2), [(1, 40)]),
    "double": (double(2), [(1, 40)]),
    "calm": (calm(2), [(1, 5)]),
    "party": (party(2), [(1, 4)]),
    "house": (house(2), [(1, 4)]),
    "draft": (draft(2), [(1, 4)]),
    "held": (held(2), [(1, 4)]),
    "final": (final(2), [(1, 4)]),
    "belief": (belief(2), [(1, 4)]),
    "flying": (flying(), []),
    "unmatched": (unmatched(), []),
    "now": (now(), []),
    "total": (total(2), [(1, 3)]),
}

# The calls that take a party and nothing more.
OF_A_PARTY = (clear, send, party, house, draft, held, final, belief)

FULL = filled(40)
FULL_WITH_DRAFTS = FULL + [write(1, 2, 1, 5), write(2, 1, 1, -5), write(3, 4, 3, 9), send(2)]
BUSY = [
    open_(3, 2, 2), write(1, 2, 1, 5), write(2, 1, 1, -7), send(1), send(2), tick(), deliver(1), deliver(1), tick(),
    send(3), deliver(1), double(2), write(1, 3, 2, 6),
]
STATES = {
    "nothing open": [],
    "just open": opened(2, 1, 1),
    "full net": FULL,
    "full net with drafts": FULL_WITH_DRAFTS,
    "busy": BUSY,
    "closed and quiet": BUSY + [calm(3)],
    "much matched": arrived((1, 2, 1, 5), (2, 1, 1, -7), (3, 4, 3, 2), (4, 3, 3, -2), gate=1) + [tick(), deliver(2)],
}


def with_number(call, place, value):
    return call[:place + 1] + (value,) + call[place + 2:]


def out_of_range_calls():
    for name, (call, ranges) in CALLS.items():
        for place, (least, greatest) in enumerate(ranges):
            for value in (least - 1, greatest + 1, -HUGE, HUGE):
                yield name, with_number(call, place, value)


def edge_calls():
    for name, (call, ranges) in CALLS.items():
        for place, bounds in enumerate(ranges):
            for value in bounds:
                yield name, with_number(call, place, value)


class Ranges(unittest.TestCase):
    def test_one_below_one_above_and_far_out_are_refused(self):
        for state, calls in STATES.items():
            for name, call in out_of_range_calls():
                with self.subTest(state=state, name=name, call=call):
                    self.assertEqual(last(*calls, call), [-1])

    def test_zero_and_minus_one_are_refused_as_party_quarter_place_and_count(self):
        for value in (0, -1):
            of_a_party = tuple(of_party(value) for of_party in OF_A_PARTY)
            for call in of_a_party + (deliver(value), lose(value), double(value), calm(value), total(value),
                                      write(value, 2, 1, 5), write(1, value, 1, 5), write(1, 2, value, 5)):
                with self.subTest(call=call):
                    self.assertEqual(last(*FULL, call), [-1])

    def test_least_and_greatest_are_not_refused(self):
        # Without a full net, for double; with 40 messages, for a place of 40.
        for name, call in edge_calls():
            calls = filled(39) if name == "double" and call[1] < 40 else FULL
            expected = [-7] if name == "double" and call[1] == 40 else [0]
            if name in ("final", "belief"):
                expected = [-8]
            with self.subTest(name=name, call=call):
                self.assertEqual(last(*calls, call)[:1], expected)

    def test_least_and_greatest_are_not_refused_where_everybody_believes_something(self):
        calls = opened(4, 3, 1) + [calm(2)]
        for name, call in edge_calls():
            if name not in ("deliver", "lose", "double"):
                with self.subTest(name=name, call=call):
                    self.assertEqual(last(*calls, call)[0], 0)

    def test_every_number_in_range_is_accepted(self):
        for parties in (2, 3, 4):
            for quarters in (1, 2, 3):
                for gate in (1, 2, 50, 99, 100):
                    self.assertEqual(last(open_(parties, quarters, gate)), [0])
        for number in (1, 2, 3, 4):
            for of_party in OF_A_PARTY:
                self.assertEqual(last(*opened(4, 3, 1), calm(2), of_party(number))[0], 0)
        for quarter in (1, 2, 3):
            self.assertEqual(last(*FULL, total(quarter))[0], 0)
        for place in range(1, 41):
            self.assertEqual(last(*FULL, lose(place)), [0])
            self.assertEqual(last(*FULL, deliver(place)), [0, 1, 1, 1, 0])
        for place in range(1, 40):
            self.assertEqual(last(*filled(39), double(place)), [0])

    def test_amounts_at_the_edges_are_kept_as_they_are(self):
        for amount in (-BILLION, -BILLION + 1, -1, 1, BILLION - 1, BILLION):
            self.assertEqual(last(*opened(), write(1, 2, 1, amount), draft(1)), [0, 2, 1, amount])


class NothingOpen(unittest.TestCase):
    def test_every_call_but_open(self):
        for name, (call, ranges) in CALLS.items():
            expected = [0] if name == "open" else [-2]
            with self.subTest(name=name):
                self.assertEqual(last(call), expected)

    def test_a_refused_open_opens_nothing(self):
        self.assertEqual(run(open_(1, 1, 1), tick(), open_(2, 0, 1), tick(), open_(2, 1, 101), party(1)),
                         [[-1], [-2], [-1], [-2], [-1], [-2]])


class NoSuchParty(unittest.TestCase):
    def test_one_more_than_there_are(self):
        for parties in (2, 3):
            for number in range(parties + 1, 5):
                of_a_party = tuple(of_party(number) for of_party in OF_A_PARTY)
                for call in of_a_party + (write(number, 1, 1, 5), write(1, number, 1, 5)):
                    with self.subTest(parties=parties, call=call):
                        self.assertEqual(last(*opened(parties), call), [-3])
                        self.assertEqual(last(*opened(parties, 3, 1), calm(3), call), [-3])

    def test_the_last_there_is(self):
        for parties in (2, 3, 4):
            of_a_party = tuple(of_party(parties) for of_party in OF_A_PARTY)
            for call in of_a_party + (write(parties, 1, 1, 5), write(1, parties, 1, 5)):
                with self.subTest(parties=parties, call=call):
                    self.assertEqual(last(*opened(parties, 3, 1), calm(2), call)[0], 0)

    def test_writing_of_oneself(self):
        for number in (1, 2, 3, 4):
            self.assertEqual(last(*opened(), write(number, number, 1, 5)), [-3])

    def test_no_amount_makes_it_better(self):
        for amount in (-BILLION, 0, BILLION):
            self.assertEqual(last(*opened(2), write(1, 3, 1, amount)), [-3])


class NoSuchQuarter(unittest.TestCase):
    def test_more_than_there_are(self):
        for quarters in (1, 2):
            for quarter in range(quarters + 1, 4):
                self.assertEqual(last(*opened(4, quarters), write(1, 2, quarter, 5)), [-4])
                self.assertEqual(last(*opened(4, quarters), total(quarter)), [-4])

    def test_the_last_there_is(self):
        for quarters in (1, 2, 3):
            self.assertEqual(last(*opened(4, quarters), write(1, 2, quarters, 5)), [0])
            self.assertEqual(last(*opened(4, quarters), total(quarters)), [0, 0, 0, 0, 0])


class NoSuchMessage(unittest.TestCase):
    def test_empty_net(self):
        for call in (deliver, lose, double):
            for place in (1, 2, 39, 40):
                self.assertEqual(last(*opened(), call(place)), [-6])

    def test_one_more_than_there_are(self):
        for count in (1, 2, 3, 20, 38):
            for call in (deliver, lose, double):
                self.assertEqual(last(*filled(count), call(count + 1)), [-6])
                self.assertEqual(last(*filled(count), call(40)), [-6])
                self.assertEqual(last(*filled(count), call(count))[0], 0)

    def test_the_fortieth_of_39(self):
        for call in (deliver, lose, double):
            self.assertEqual(last(*filled(39), call(40)), [-6])


class NetIsFull(unittest.TestCase):
    def test_double_with_40_messages(self):
        for place in range(1, 41):
            self.assertEqual(last(*FULL, double(place)), [-7])

    def test_double_with_39_messages_once(self):
        self.assertEqual(after(filled(39), double(39), double(39)), [[0], [-7]])

    def test_double_goes_again_when_there_is_room(self):
        self.assertEqual(after(FULL, double(1), lose(40), double(1), double(1)), [[-7], [0], [0], [-7]])


class NoMoreVersions(unittest.TestCase):
    def test_the_fiftieth_and_the_next(self):
        given = run(*opened(), *[send(1)] * 52)
        self.assertEqual(given[1:], [[0, version] for version in range(1, 51)] + [[-5], [-5]])

    def test_each_party_has_its_own_fifty(self):
        self.assertEqual(after(opened() + [send(1)] * 50, send(1), send(2), send(4)), [[-5], [0, 1], [0, 1]])

    def test_open_gives_fifty_anew(self):
        self.assertEqual(after(opened() + [send(1)] * 50, open_(2, 1, 1), send(1)), [[0], [0, 1]])


class NotYet(unittest.TestCase):
    def test_final_until_the_books_are_closed(self):
        for number in (1, 2, 3, 4):
            self.assertEqual(after(opened(4, 3, 2), final(number), tick(), final(number), tick(), final(number)),
                             [[-8], [0, 1, 0, 0], [-8], [0, 2, 1, 4], [0]])

    def test_belief_until_a_confirmation_arrived(self):
        for number in (1, 2, 3, 4):
            self.assertEqual(after(opened(4, 3, 1), belief(number), tick(), belief(number), deliver(number),
                                   belief(number)),
                             [[-8], [0, 1, 1, 4], [-8], [0, 4, number, 0, 0], [0]])

    def test_no_other_question_waits_for_the_gate(self):
        for call in (party(1), house(1), draft(1), held(1), flying(), unmatched(), now(), total(1)):
            self.assertEqual(last(*opened(2, 1, 100), call)[0], 0)


class Order(unittest.TestCase):
    def test_range_before_nothing_open(self):
        for name, call in out_of_range_calls():
            with self.subTest(name=name, call=call):
                self.assertEqual(last(call), [-1])

    def test_nothing_open_before_all_others(self):
        of_a_party = tuple(of_party(4) for of_party in OF_A_PARTY)
        for call in of_a_party + (write(1, 1, 1, 5), write(4, 4, 3, 0), deliver(40), lose(40), double(40), total(3)):
            self.assertEqual(last(call), [-2])
            self.assertEqual(last(open_(5, 1, 1), call), [-2])

    def test_range_before_party(self):
        small = opened(2, 1)
        for call in (write(3, 1, 4, 5), write(3, 1, 1, BILLION + 1), write(1, 1, 0, 5), write(1, 1, 1, -BILLION - 1),
                     write(4, 5, 1, 5), write(5, 4, 1, 5), write(5, 5, 1, 5), write(0, 0, 1, 5)):
            with self.subTest(call=call):
                self.assertEqual(last(*small, call), [-1])

    def test_range_before_a_party_that_is_not_there(self):
        for of_party in OF_A_PARTY:
            self.assertEqual(after(opened(2, 1), of_party(5), of_party(4), of_party(3), of_party(0)),
                             [[-1], [-3], [-3], [-1]])

    def test_range_before_a_quarter_that_is_not_there(self):
        self.assertEqual(after(opened(2, 1), total(4), total(3), total(2), total(0)), [[-1], [-4], [-4], [-1]])

    def test_range_and_party_before_not_yet(self):
        for ask in (final, belief):
            self.assertEqual(after(opened(2, 1), ask(5), ask(0), ask(-HUGE), ask(HUGE), ask(3), ask(4), ask(2)),
                             [[-1], [-1], [-1], [-1], [-3], [-3], [-8]])
            self.assertEqual(after(opened(3, 1), ask(5), ask(4), ask(3)), [[-1], [-3], [-8]])

    def test_range_before_quarter(self):
        self.assertEqual(last(*opened(2, 1), write(1, 2, 2, BILLION + 1)), [-1])
        self.assertEqual(last(*opened(2, 1), write(0, 2, 2, 5)), [-1])

    def test_party_before_quarter(self):
        for call in (write(3, 1, 2, 5), write(1, 3, 2, 5), write(1, 1, 2, 5), write(3, 3, 3, 5)):
            self.assertEqual(last(*opened(2, 1), call), [-3])

    def test_range_before_message_and_before_full_net(self):
        for call in (deliver, lose, double):
            self.assertEqual(last(*opened(), call(41)), [-1])
            self.assertEqual(last(*opened(), call(0)), [-1])
        self.assertEqual(last(*FULL, double(41)), [-1])
        self.assertEqual(last(*FULL, double(0)), [-1])

    def test_range_and_party_before_versions(self):
        worn = opened(2, 1) + [send(1)] * 50 + [send(2)] * 50
        self.assertEqual(after(worn, send(0), send(5), send(3), send(4), send(1), send(2)),
                         [[-1], [-1], [-3], [-3], [-5], [-5]])


class NothingChanges(unittest.TestCase):
    def refused_calls(self):
        for name, call in out_of_range_calls():
            yield call
        for name, (call, ranges) in CALLS.items():
            yield call
        for call in (write(1, 1, 1, 5), write(4, 1, 1, 5), write(1, 4, 1, 5), write(1, 2, 3, 5), write(1, 2, 2, 5),
                     send(1), deliver(1), deliver(40), lose(1), lose(40), double(1), double(40), total(3)):
            yield call
        for of_party in OF_A_PARTY:
            yield of_party(3)
            yield of_party(4)

    def test_all_that_is_kept(self):
        states = dict(STATES)
        states["worn"] = opened(2, 1, 3) + [write(1, 2, 1, 5)] + [send(1)] * 50
        met = set()
        for state, calls in states.items():
            before = snapshot(performed(calls))
            for call in self.refused_calls():
                refusal = last(*calls, call)[0]
                if refusal < 0:
                    met.add(refusal)
                    with self.subTest(state=state, call=call):
                        self.assertEqual(snapshot(performed(calls + [call])), before)
        self.assertEqual(met, {-1, -2, -3, -4, -5, -6, -7, -8})

    def test_all_that_is_answered_afterwards(self):
        probes = QUESTIONS + [deliver(2), deliver(1), tick(), send(1), send(2), deliver(1), flying(), calm(1),
                              deliver(1), deliver(1), calm(2)] + QUESTIONS
        for state, calls in STATES.items():
            expected = after(calls, *probes)
            for call in self.refused_calls():
                if last(*calls, call)[0] < 0:
                    with self.subTest(state=state, call=call):
                        self.assertEqual(after(calls + [call], *probes), expected)

    def test_a_call_that_only_asks(self):
        moves = [deliver(2), send(1), tick(), flying(), calm(2)]
        for state, calls in STATES.items():
            kept = snapshot(performed(calls))
            answered = after(calls, *QUESTIONS, *moves, *QUESTIONS)
            for question in QUESTIONS:
                with self.subTest(state=state, question=question):
                    self.assertEqual(snapshot(performed(calls + [question])), kept)
                    self.assertEqual(after(calls + [question], *QUESTIONS, *moves, *QUESTIONS), answered)

    def test_all_questions_twice(self):
        for state, calls in STATES.items():
            with self.subTest(state=state):
                self.assertEqual(after(calls + QUESTIONS, *QUESTIONS), after(calls, *QUESTIONS))

    def test_many_refusals_in_a_row(self):
        refusals = [call for name, call in out_of_range_calls()]
        flat = line(FULL + refusals + [lose(40), tick()])
        self.assertEqual(answers(flat)[-6:], [0, 4, 0, 1, 0, 40])


if __name__ == "__main__":
    unittest.main()
