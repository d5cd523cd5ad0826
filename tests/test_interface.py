"""How calls stand in the list, how answers are given back, and that nothing is kept."""

import unittest

from asking import (ALL, FAR, add, again, ask, config, freeze, next_open, order, outcome, place, queue_with_ended,
                    serve, snapshot, split, status, tell, thaw, tick, why, window, withdraw)
from agingqueue.queue import UnknownCall, answers

REFUSED = (
    (config(-FAR, FAR), -1), (config(3, 24), -8),
    (add(FAR, -FAR, FAR), -1), (add(3, 9, 0, [FAR]), -2), (add(500, 9), -9), (add(3, 9, 0, [3]), -6),
    (window(FAR, 1, 2), -1), (window(1, 2, 1), -2),
    (freeze(8), -1), (thaw(8), -1), (tick(1001), -1), (serve(0), -1),
    (outcome(501, 2), -1), (outcome(501, -1), -1), (outcome(500, 1), -6), (outcome(2, 0), -6), (outcome(3, 1), -6),
    (again(500), -6), (again(2), -6), (again(3), -6), (withdraw(501), -6), (withdraw(2), -6), (withdraw(3), -6),
    (why(3), -6), (place(500), -6), (place(501), -6), (place(2), -6), (place(3), -6), (next_open(8), -1),
    (next_open(-1), -1),
)

EVERY_CALL = [0, 1, 7, 1, 5, 0, 0, 0, 1, 6, 9, 2, 1, 5, 2, 3, 2, 0, 4, 3, 3, 4, -1, 5, 30, 6, 7, 1, 11, 6, 9, 5, 12, 5,
              13, 3, 7, 1, 8, 5, 1, 14, 10, 6, 14]


class InterfaceTest(unittest.TestCase):
    def test_the_list_as_it_stands(self):
        stands = (
            ([0, 2, 10], [1, 0]),
            ([1, 7, 3, 1, 0], [1, 1]),
            ([1, 8, 4, 1, 1, 7], [1, 2]),
            ([2, 5, 2, 1, 3], [1, 1]),
            ([3, 2], [1, 0]),
            ([4, 2], [1, 0]),
            ([5, 6], [1, 6]),
            ([6], [2, 1, 7]),
            ([7, 5], [2, 1, 7]),
            ([1, 9, 0, 0, 0], [1, 2]),
            ([6], [2, 1, 9]),
            ([11, 7], [1, 6]),
            ([11, 8], [3, 4, 1, 7]),
            ([9, 7], [1, 3]),
            ([12, 9], [1, 1]),
            ([11, 9], [2, 1, 0]),
            ([7, 1], [2, 1, 7]),
            ([8, 7, 0], [1, 1]),
            ([11, 8], [3, 5, 1, 7]),
            ([10, 8], [1, 1]),
            ([2, 0, 2, 0, 1], [1, 1]),
            ([13, 0], [1, 2]),
            ([11, 9], [1, 3]),
            ([12, 9], [1, -6]),
            ([14], [7, 2, 10, 8, 1, 0, 0, 2]),
        )
        calls = [number for call, answer in stands for number in call]
        told = [number for call, answer in stands for number in answer]
        self.assertEqual(answers(calls), told)

    def test_served_as_it_stands(self):
        self.assertEqual(answers([1, 5, 0, 0, 0, 1, 6, 9, 0, 0, 6, 7, 1]), [1, 1, 1, 2, 3, 2, 6, 5, 2, 1, 6])

    def test_a_refusal_is_its_number_alone(self):
        self.assertEqual(answers([7, 0, 6, 5, 1001, 3, 8, 4, -2]), [1, -1, 1, 0, 1, -1, 1, -1, 1, -1])

    def test_the_call_behind_a_refused_row_is_read_right(self):
        for amount in (0, 1, 7, 20):
            with self.subTest(amount=amount):
                row = [FAR] * amount
                self.assertEqual(ask(add(-1, 0, 0, row), tick(1), window(-1, *row), tick(1)), [[-1], [1], [-1], [2]])

    def test_each_call_alone(self):
        alone = ((config(3, 24), 0), (add(1), 1), (window(0, 1, 2), 1), (window(0), 0), (freeze(0), 0), (thaw(0), 0),
                 (tick(4), 4), (order(), 0), (serve(1), 0), (outcome(0, 1), -6), (again(0), -6), (withdraw(0), -6),
                 (why(0), -6), (place(0), -6), (next_open(0), 0))
        for call, answer in alone:
            with self.subTest(call=call):
                self.assertEqual(answers(call), [1, answer])
        self.assertEqual(answers(status()), [7, 3, 24, 0, 0, 0, 0, 0])

    def test_a_number_that_no_call_has(self):
        for number in (-1, 15, FAR):
            with self.subTest(number=number):
                self.assertRaises(UnknownCall, answers, [6, number])

    def test_four_hundred_calls_with_the_longest_rows(self):
        calls = [add(FAR, FAR, FAR, [FAR] * 20)] * 400
        self.assertEqual(ask(*calls), [[-1]] * 400)

    def test_four_hundred_long_answers(self):
        forty = [add(number) for number in range(40)]
        self.assertEqual(ask(*forty, *[order()] * 360)[40:], [[40] + list(range(40))] * 360)

    def test_whole_numbers_and_lists_alone(self):
        calls = [0, 3, 24, 1, 5, 0, 0, 0, 2, 0, 2, 0, 9, 3, -1, 4, -1, 5, 3, 6, 7, 1, 7, 0, 9, 5, 11, 5, 12, 5, 13, 0,
                 7, 1, 8, 5, 1, 11, 5, 1, 6, 0, 0, 1, 5, 1, 7, 0, 0, 1, 6, 11, 7, 10, 6, 11, 7, 11, 6, 8, 6, 2, 14]
        told = answers(calls)
        self.assertIs(type(told), list)
        self.assertEqual({type(number) for number in told}, {int})

    def test_what_is_handed_in_is_as_it_was(self):
        calls = [1, 5, 0, 0, 0, 1, 6, 9, 0, 1, 5, 2, 0, 4, 0, 9, 1, 3, 6, 7, 2, 1, 5, 0, 0, 20] + [7] * 20 + [6]
        before = list(calls)
        answers(calls)
        self.assertEqual(calls, before)

    def test_what_is_handed_in_is_as_it_was_by_every_call(self):
        before = list(EVERY_CALL)
        once = answers(EVERY_CALL)
        self.assertEqual(EVERY_CALL, before)
        self.assertEqual(answers(EVERY_CALL), once)
        self.assertEqual(answers(list(before)), once)

    def test_needs_told_are_not_the_queues_own(self):
        queue = queue_with_ended(0)
        for call in (add(1), add(2), add(3, 0, 0, [2, 1])):
            tell(queue, call)
        for times in range(2):
            told = tell(queue, why(3))
            self.assertEqual(told, [4, 2, 2, 1])
            told.clear()

    def test_four_hundred_calls_of_every_kind(self):
        turn = [tick(1), add(1), add(2, 9, 0, [1]), serve(1), again(1), serve(1), outcome(1, 1), why(2), place(2),
                withdraw(2), next_open(0), order(), freeze(1), thaw(1), window(1, 2, 3), status(), config(3, 24)]
        first = [[1], [1], [2], [1, 1], [2], [1, 1], [1], [1, 0], [0], [0], [0], [0], [0], [0], [1],
                 [3, 24, 3, 0, 0, 1, 1], [0]]
        later = [[-9], [-9], [0], [-6], [0], [-6], [9], [-6], [-6], [0], [0], [0], [0], [1]]
        told = list(first)
        for turns in range(1, 24):
            told += [[3 * turns + 1]] + later + [[3, 24, 3 * turns + 3, 0, 0, 1, 1], [0]]
        self.assertGreater(len(turn * 24), 400)
        self.assertEqual(ask(*(turn * 24)[:400]), told[:400])

    def test_nothing_is_kept(self):
        calls = [0, 1, 7, 1, 5, 0, 0, 0, 1, 6, 9, 2, 0, 2, 3, 2, 0, 4, 3, 3, 4, -1, 5, 30, 6, 7, 1, 6]
        once = answers(calls)
        self.assertEqual(answers(calls), once)
        answers([0, 0, 1, 3, -1, 5, 1000])
        self.assertEqual(answers(calls), once)
        self.assertEqual(answers([5, 0, 6]), [1, 0, 1, 0])

    def test_the_list_given_back_is_the_callers_own(self):
        calls = [1, 5, 0, 0, 0, 6, 7, 1, 6]
        once = answers(calls)
        once.clear()
        self.assertEqual(split(answers(calls)), [[1], [1, 5], [1, 5], [0]])


class RefusalTest(unittest.TestCase):
    def test_each_refusal_changes_nothing(self):
        queue = queue_with_ended(3)
        for call in (add(500, 1, 2, [1, 2]), add(501, 9, 3), serve(1), add(502), window(1, 3, 4), freeze(5),
                     freeze(ALL), tick(5)):
            tell(queue, call)
        before = snapshot(queue)
        for call, answer in REFUSED:
            with self.subTest(call=call):
                self.assertEqual(tell(queue, call), [answer])
                self.assertEqual(snapshot(queue), before)

    def test_numbers_far_off_in_every_place(self):
        for far in (-FAR, FAR):
            for call in (config(far, 24), config(3, far), add(far), add(1, far), add(1, 0, far), window(far),
                         freeze(far), thaw(far), tick(far), serve(far), outcome(1, far), outcome(far, far),
                         next_open(far)):
                with self.subTest(call=call):
                    self.assertEqual(ask(call), [[-1]])
            for call in (add(1, 0, 0, [far]), window(0, far, 1), window(0, 0, far)):
                with self.subTest(call=call):
                    self.assertEqual(ask(call), [[-2]])
            for call in (outcome(far, 0), outcome(far, 1), again(far), withdraw(far), why(far), place(far)):
                with self.subTest(call=call):
                    self.assertEqual(ask(call), [[-6]])


if __name__ == "__main__":
    unittest.main()
