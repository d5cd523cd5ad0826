"""Promise 8: outcome."""

import unittest

from asking import (FAR, add, again, ask, freeze, last, order, outcome, queue_after, serve, snapshot, status, tell, why,
                    window, withdraw)

RUNNING = (add(1), add(2), add(3), serve(3))


class OutcomeTest(unittest.TestCase):
    def test_landed(self):
        self.assertEqual(ask(add(1), serve(1), outcome(1, 1), why(1), status())[2:], [[1], [7], [3, 24, 1, 0, 0, 1, 0]])

    def test_rejected(self):
        self.assertEqual(ask(add(1), serve(1), outcome(1, 0), why(1), status())[2:], [[1], [8], [3, 24, 1, 0, 0, 0, 1]])

    def test_answers_how_many_ended(self):
        self.assertEqual(ask(*RUNNING, outcome(2, 0), outcome(1, 1), outcome(3, 1))[4:], [[1], [2], [3]])

    def test_withdrawn_items_ended_too(self):
        calls = (add(1), add(2), add(3), withdraw(2), withdraw(3), serve(1), outcome(1, 1))
        self.assertEqual(last(*calls), [3])

    def test_of_any_that_runs(self):
        for number in (1, 2, 3):
            with self.subTest(number=number):
                asked = ask(*RUNNING, outcome(number, 1), why(1), why(2), why(3))[4:]
                self.assertEqual(asked, [[1]] + [[7 if other == number else 6] for other in (1, 2, 3)])

    def test_numbers_at_the_edges(self):
        self.assertEqual(ask(add(0), add(999), serve(2), outcome(0, 1), outcome(999, 0))[3:], [[1], [2]])

    def test_of_an_item_whose_class_is_frozen_or_outside_its_windows(self):
        calls = (add(1), add(2), serve(2), freeze(-1), window(0, 20, 21), outcome(1, 1), outcome(2, 0))
        self.assertEqual(ask(*calls)[5:], [[1], [2]])

    def test_edges_of_ok(self):
        for ok, answer in ((-1, -1), (0, 1), (1, 1), (2, -1), (-FAR, -1), (FAR, -1)):
            with self.subTest(ok=ok):
                self.assertEqual(last(add(1), serve(1), outcome(1, ok)), [answer])

    def test_a_number_that_no_item_has(self):
        for number in (-1, 0, 2, 999, 1000, -FAR, FAR):
            for ok in (0, 1):
                with self.subTest(number=number, ok=ok):
                    self.assertEqual(last(add(1), serve(1), outcome(number, ok)), [-6])

    def test_an_item_that_waits(self):
        self.assertEqual(ask(add(1), outcome(1, 1), outcome(1, 0), order())[1:], [[-6], [-6], [1, 1]])

    def test_an_item_that_was_put_back(self):
        calls = (add(1), serve(1), again(1), outcome(1, 1), serve(1), outcome(1, 1))
        self.assertEqual(ask(*calls)[2:], [[1], [-6], [1, 1], [1]])

    def test_an_item_that_ended(self):
        calls = (add(1), add(2), add(3), withdraw(3), serve(2), outcome(1, 1), outcome(2, 0))
        for number, told in ((1, 7), (2, 8), (3, 9)):
            for ok in (0, 1):
                with self.subTest(number=number, ok=ok):
                    asked = ask(*calls, outcome(number, ok), why(number), status())
                    self.assertEqual(asked[7:], [[-6], [told], [3, 24, 1, 0, 0, 1, 2]])

    def test_a_wrong_ok_is_told_before_a_number_that_does_not_run(self):
        for ok in (-1, 2, -FAR, FAR):
            for number in (1, 2, 7, -1, 1000, -FAR, FAR):
                with self.subTest(number=number, ok=ok):
                    self.assertEqual(last(add(1), add(2), serve(1), outcome(number, ok)), [-1])

    def test_refusals_change_nothing(self):
        queue = queue_after(*RUNNING, add(4), outcome(3, 0))
        before = snapshot(queue)
        for call, answer in ((outcome(1, 2), -1), (outcome(1, -1), -1), (outcome(3, 1), -6), (outcome(4, 1), -6),
                             (outcome(5, 0), -6), (outcome(FAR, FAR), -1)):
            with self.subTest(call=call):
                self.assertEqual(tell(queue, call), [answer])
                self.assertEqual(snapshot(queue), before)

    def test_room_again_each_time(self):
        calls = [add(number) for number in range(40)] + [serve(40)]
        for number in range(40):
            calls += [add(100 + number), outcome(number, number % 2), add(100 + number)]
        self.assertEqual(ask(*calls)[41:], [[told] for done in range(1, 41) for told in (-7, done, done)])

    def test_passes_nobody_and_takes_no_time(self):
        calls = (add(1, 0), add(2, 9), serve(1), outcome(2, 1), why(1), status())
        self.assertEqual(ask(*calls)[4:], [[1, 1], [3, 24, 1, 1, 0, 1, 0]])


class NeedsBehindOutcomeTest(unittest.TestCase):
    def test_an_item_is_served_once_its_need_landed(self):
        calls = (add(1), add(2, 9, 0, [1]), serve(2), serve(2), outcome(1, 1), order(), serve(2))
        self.assertEqual(ask(*calls)[2:], [[1, 1], [0], [1], [1, 2], [1, 2]])

    def test_an_item_is_never_served_once_its_need_was_rejected(self):
        calls = (add(1), add(2, 9, 0, [1]), serve(2), outcome(1, 0), order(), serve(2))
        self.assertEqual(ask(*calls)[2:], [[1, 1], [1], [0], [0]])

    def test_a_chain_of_needs(self):
        calls = [add(1), add(2, 0, 0, [1]), add(3, 0, 0, [2]), add(4, 0, 0, [1, 3])]
        for number in (1, 2, 3, 4):
            calls += [serve(40), outcome(number, 1)]
        self.assertEqual(ask(*calls)[4:], [told for number in (1, 2, 3, 4) for told in ([1, number], [number])])

    def test_an_item_that_becomes_ready_is_placed_as_it_came(self):
        calls = (add(1, 9), add(2, 5, 0, [1]), add(3, 5), serve(1), order(), outcome(1, 1), order())
        self.assertEqual(ask(*calls)[4:], [[1, 3], [1], [2, 2, 3]])

    def test_an_item_whose_need_did_not_land_was_not_passed(self):
        calls = (add(1, 9), add(2, 0, 0, [1]), add(3, 5), serve(1), serve(1), outcome(1, 1), why(2), add(4, 5),
                 serve(1), why(2))
        self.assertEqual(ask(*calls)[5:], [[1], [1, 0], [2], [1, 4], [1, 1]])


if __name__ == "__main__":
    unittest.main()
