"""How calls stand in the list, how answers are given back, and that nothing is kept."""

import unittest

from asking import (ALL, FAR, add, ask, config, freeze, order, queue_with_ended, serve, snapshot, split, tell, thaw,
                    tick, window)
from agingqueue.queue import UnknownCall, answers

REFUSED = (
    (config(-FAR, FAR), -1), (config(3, 24), -8),
    (add(FAR, -FAR, FAR), -1), (add(3, 9, 0, [FAR]), -2), (add(500, 9), -9), (add(3, 9, 0, [3]), -6),
    (window(FAR, 1, 2), -1), (window(1, 2, 1), -2),
    (freeze(8), -1), (thaw(8), -1), (tick(1001), -1), (serve(0), -1),
)


class InterfaceTest(unittest.TestCase):
    def test_the_list_as_it_stands(self):
        stands = (
            ([0, 2, 10], [1, 0]),
            ([1, 7, 3, 1, 0], [1, 1]),
            ([1, 8, 4, 1, 1, 7], [1, 2]),
            ([2, 5, 2, 1, 3], [1, 1]),
            ([3, 2], [1, 0]),
            ([4, 2], [1, 0]),
            ([5, 6], [1, 6]),
            ([6], [2, 1, 7]),
            ([7, 5], [2, 1, 7]),
            ([1, 9, 0, 0, 0], [1, 2]),
            ([6], [2, 1, 9]),
        )
        calls = [number for call, answer in stands for number in call]
        told = [number for call, answer in stands for number in answer]
        self.assertEqual(answers(calls), told)

    def test_served_as_it_stands(self):
        self.assertEqual(answers([1, 5, 0, 0, 0, 1, 6, 9, 0, 0, 6, 7, 1]), [1, 1, 1, 2, 3, 2, 6, 5, 2, 1, 6])

    def test_a_refusal_is_its_number_alone(self):
        self.assertEqual(answers([7, 0, 6, 5, 1001, 3, 8, 4, -2]), [1, -1, 1, 0, 1, -1, 1, -1, 1, -1])

    def test_the_call_behind_a_refused_row_is_read_right(self):
        for amount in (0, 1, 7, 20):
            with self.subTest(amount=amount):
                row = [FAR] * amount
                self.assertEqual(ask(add(-1, 0, 0, row), tick(1), window(-1, *row), tick(1)), [[-1], [1], [-1], [2]])

    def test_each_call_alone(self):
        alone = ((config(3, 24), 0), (add(1), 1), (window(0, 1, 2), 1), (window(0), 0), (freeze(0), 0), (thaw(0), 0),
                 (tick(4), 4), (order(), 0), (serve(1), 0))
        for call, answer in alone:
            with self.subTest(call=call):
                self.assertEqual(answers(call), [1, answer])

    def test_a_number_that_no_call_has(self):
        for number in (-1, 15, FAR):
            with self.subTest(number=number):
                self.assertRaises(UnknownCall, answers, [6, number])

    def test_four_hundred_calls_with_the_longest_rows(self):
        calls = [add(FAR, FAR, FAR, [FAR] * 20)] * 400
        self.assertEqual(ask(*calls), [[-1]] * 400)

    def test_four_hundred_long_answers(self):
        forty = [add(number) for number in range(40)]
        self.assertEqual(ask(*forty, *[order()] * 360)[40:], [[40] + list(range(40))] * 360)

    def test_whole_numbers_and_lists_alone(self):
        told = answers([0, 3, 24, 1, 5, 0, 0, 0, 2, 0, 2, 0, 9, 3, -1, 4, -1, 5, 3, 6, 7, 1, 7, 0])
        self.assertIs(type(told), list)
        self.assertEqual({type(number) for number in told}, {int})

    def test_what_is_handed_in_is_as_it_was(self):
        calls = [1, 5, 0, 0, 0, 1, 6, 9, 0, 1, 5, 2, 0, 4, 0, 9, 1, 3, 6, 7, 2, 1, 5, 0, 0, 20] + [7] * 20 + [6]
        before = list(calls)
        answers(calls)
        self.assertEqual(calls, before)

    def test_nothing_is_kept(self):
        calls = [0, 1, 7, 1, 5, 0, 0, 0, 1, 6, 9, 2, 0, 2, 3, 2, 0, 4, 3, 3, 4, -1, 5, 30, 6, 7, 1, 6]
        once = answers(calls)
        self.assertEqual(answers(calls), once)
        answers([0, 0, 1, 3, -1, 5, 1000])
        self.assertEqual(answers(calls), once)
        self.assertEqual(answers([5, 0, 6]), [1, 0, 1, 0])

    def test_the_list_given_back_is_the_callers_own(self):
        calls = [1, 5, 0, 0, 0, 6, 7, 1, 6]
        once = answers(calls)
        once.clear()
        self.assertEqual(split(answers(calls)), [[1], [1, 5], [1, 5], [0]])


class RefusalTest(unittest.TestCase):
    def test_each_refusal_changes_nothing(self):
        queue = queue_with_ended(3)
        for call in (add(500, 1, 2, [1, 2]), add(501, 9, 3), serve(1), add(502), window(1, 3, 4), freeze(5),
                     freeze(ALL), tick(5)):
            tell(queue, call)
        before = snapshot(queue)
        for call, answer in REFUSED:
            with self.subTest(call=call):
                self.assertEqual(tell(queue, call), [answer])
                self.assertEqual(snapshot(queue), before)

    def test_numbers_far_off_in_every_place(self):
        for far in (-FAR, FAR):
            for call in (config(far, 24), config(3, far), add(far), add(1, far), add(1, 0, far), window(far),
                         freeze(far), thaw(far), tick(far), serve(far)):
                with self.subTest(call=call):
                    self.assertEqual(ask(call), [[-1]])
            for call in (add(1, 0, 0, [far]), window(0, far, 1), window(0, 0, far)):
                with self.subTest(call=call):
                    self.assertEqual(ask(call), [[-2]])


if __name__ == "__main__":
    unittest.main()
