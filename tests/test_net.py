"""The net: the order of messages, its 40 places; deliver, lose and double."""

import unittest

from tests.helper import (
    after, calm, deliver, double, filled, in_net, in_net_short, last, lose, opened, party, performed, run, send,
    snapshot, tick, write,
)

FOUR = opened() + [send(1), send(2), send(3), send(4)]


def order(calls):
    return [number for kind, number, version in in_net_short(calls)]


class Order(unittest.TestCase):
    def test_one_behind_the_other(self):
        self.assertEqual(order(FOUR), [1, 2, 3, 4])
        self.assertEqual(order(opened() + [send(3), send(1), send(4), send(2)]), [3, 1, 4, 2])

    def test_the_first_is_1(self):
        self.assertEqual(after(FOUR, deliver(1)), [[0, 1, 1, 1, 0]])
        self.assertEqual(after(FOUR, deliver(4)), [[0, 1, 4, 1, 0]])


class Deliver(unittest.TestCase):
    def test_from_the_middle(self):
        self.assertEqual(run(*FOUR, deliver(2))[-1], [0, 1, 2, 1, 0])
        self.assertEqual(in_net_short(FOUR + [deliver(2)]), [(1, 1, 1), (1, 3, 1), (1, 4, 1), (2, 2, 1)])

    def test_answers_the_message_and_not_what_it_brings_about(self):
        calls = opened(2, 1, 1) + [write(1, 2, 1, 5), send(1)]
        self.assertEqual(after(calls, deliver(1), deliver(1), deliver(1)),
                         [[0, 1, 1, 1, 1], [0, 2, 1, 1, 0], [-6]])

    def test_each_kind_as_it_is_told(self):
        calls = opened(2, 2, 1) + [write(1, 2, 1, 5), write(1, 2, 2, 6), write(2, 1, 1, -5), send(1), send(2)]
        self.assertEqual(after(calls, deliver(1), deliver(2), deliver(1), tick(), send(1), lose(2)),
                         [[0, 1, 1, 1, 2], [0, 2, 1, 1, 0], [0, 1, 2, 1, 1], [0, 1, 1, 4], [0, 2], [0]])
        closed = calls + [deliver(1), deliver(2), deliver(1), tick(), send(1), lose(2)]
        self.assertEqual(in_net_short(closed), [(2, 2, 1), (4, 1, 0), (4, 2, 0), (1, 1, 2)])
        self.assertEqual(after(closed, deliver(4), deliver(4), deliver(2), deliver(3)),
                         [[0, 1, 1, 2, 2], [0, 3, 1, 2, 0], [0, 4, 1, 0, 1], [0, 5, 1, 0, 0]])


class Lose(unittest.TestCase):
    def test_takes_one_out_and_nothing_comes_of_it(self):
        for place, left in ((1, [2, 3, 4]), (2, [1, 3, 4]), (3, [1, 2, 4]), (4, [1, 2, 3])):
            self.assertEqual(last(*FOUR, lose(place)), [0])
            self.assertEqual(order(FOUR + [lose(place)]), left)
            before = snapshot(performed(FOUR))
            now = snapshot(performed(FOUR + [lose(place)]))
            before["market"].pop("net")
            now["market"].pop("net")
            self.assertEqual(now, before)

    def test_the_last_one_there_is(self):
        self.assertEqual(after(opened() + [send(1)], lose(1), lose(1), party(1)), [[0], [-6], [0, 1, 0, 1, 0, 0]])

    def test_one_of_two_that_are_alike(self):
        calls = opened() + [send(1), double(1), lose(1)]
        self.assertEqual(in_net_short(calls), [(1, 1, 1)])


class Double(unittest.TestCase):
    def test_puts_one_more_behind_all_others(self):
        for place in (1, 2, 3, 4):
            self.assertEqual(last(*FOUR, double(place)), [0])
            self.assertEqual(order(FOUR + [double(place)]), [1, 2, 3, 4, place])

    def test_it_is_the_same_message(self):
        calls = opened() + [write(1, 2, 3, 5), send(1), write(1, 2, 3, 6), send(1), send(2), double(2)]
        self.assertEqual(in_net(calls),
                         [(1, 1, 1, {(2, 3): 5}), (1, 1, 2, {(2, 3): 6}), (1, 2, 1, {}), (1, 1, 2, {(2, 3): 6})])

    def test_nothing_comes_of_it(self):
        self.assertEqual(after(FOUR, double(2), party(2)), [[0], [0, 1, 0, 1, 0, 0]])

    def test_each_of_the_two_arrives_by_itself(self):
        calls = opened() + [send(1), double(1)]
        self.assertEqual(after(calls, deliver(2), deliver(1), deliver(1), deliver(1), deliver(1)),
                         [[0, 1, 1, 1, 0], [0, 1, 1, 1, 0], [0, 2, 1, 1, 0], [0, 2, 1, 1, 0], [-6]])

    def test_every_kind_is_doubled(self):
        ready = opened(2, 1, 1) + [tick(), lose(2), send(1), deliver(2)]
        self.assertEqual(in_net_short(ready), [(4, 1, 0), (3, 1, 1)])
        self.assertEqual(in_net_short(ready + [double(1), double(2)]), [(4, 1, 0), (3, 1, 1), (4, 1, 0), (3, 1, 1)])
        self.assertEqual(in_net_short(ready + [deliver(1), double(2)]), [(3, 1, 1), (5, 1, 0), (5, 1, 0)])


class InTheMiddle(unittest.TestCase):
    def test_lose_and_double_and_deliver_in_turn(self):
        calls = FOUR + [double(2), lose(2), deliver(2), double(1), lose(4)]
        self.assertEqual(in_net_short(calls), [(1, 1, 1), (1, 4, 1), (1, 2, 1), (1, 1, 1)])

    def test_turned_round(self):
        given = after(FOUR, deliver(4), deliver(3), deliver(2), deliver(1))
        self.assertEqual(given, [[0, 1, 4, 1, 0], [0, 1, 3, 1, 0], [0, 1, 2, 1, 0], [0, 1, 1, 1, 0]])


class Forty(unittest.TestCase):
    def test_the_fortieth_is_carried_and_the_next_is_lost(self):
        calls = opened() + [send(1)] * 41
        self.assertEqual(in_net_short(calls), [(1, 1, version) for version in range(1, 41)])
        self.assertEqual(after(calls, party(1), deliver(40)), [[0, 41, 0, 1, 0, 0], [0, 1, 1, 40, 0]])

    def test_39_and_one_more(self):
        self.assertEqual(after(filled(39), deliver(40), send(2), deliver(40)), [[-6], [0, 1], [0, 1, 2, 1, 0]])

    def test_room_is_used_again(self):
        calls = filled(40) + [lose(20), send(2), send(3)]
        self.assertEqual(in_net_short(calls), [(1, 1, 1)] * 39 + [(1, 2, 1)])

    def test_a_tick_loses_what_has_no_room(self):
        calls = opened(3) + [send(3), send(2), send(1)] + [double(1)] * 36
        self.assertEqual(last(*calls, tick()), [0, 1, 0, 40])
        self.assertEqual(in_net_short(calls + [tick()])[38:], [(1, 3, 1), (1, 1, 1)])

    def test_a_tick_with_a_full_net_loses_all(self):
        calls = filled(40, 4, 3, 1)
        self.assertEqual(last(*calls, tick()), [0, 1, 1, 40])
        self.assertEqual(in_net_short(calls + [tick()]), [(1, 1, 1)] * 40)

    def test_room_for_some_of_the_confirmations(self):
        calls = filled(36, 4, 3, 1) + [tick()]
        self.assertEqual(in_net_short(calls)[36:], [(1, 1, 1), (4, 1, 0), (4, 2, 0), (4, 3, 0)])

    def test_what_was_lost_comes_again_at_a_tick(self):
        calls = filled(40, 2, 1, 100) + [send(2)]
        self.assertEqual(after(calls, party(2), calm(1), calm(1), party(2)),
                         [[0, 1, 0, 1, 0, 0], [0, 1, 0, 1], [0, 2, 0, 0], [0, 1, 1, 0, 0, 0]])


if __name__ == "__main__":
    unittest.main()
