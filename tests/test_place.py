"""Promise 10."""

import unittest

from asking import (ALL, FAR, add, again, ask, config, freeze, last, order, outcome, place, queue_after, serve,
                    snapshot, tell, window, withdraw)

ITEMS = (add(5, 4), add(1, 6), add(9, 4), add(3, 6), add(2, 0))


class PlaceTest(unittest.TestCase):
    def test_from_the_first_to_the_last(self):
        asked = ask(*ITEMS, order(), *[place(number) for number in (1, 3, 5, 9, 2)])[5:]
        self.assertEqual(asked, [[5, 1, 3, 5, 9, 2], [0], [1], [2], [3], [4]])

    def test_the_only_one(self):
        self.assertEqual(last(add(7), place(7)), [0])

    def test_forty(self):
        forty = [add(number) for number in range(40)]
        self.assertEqual(ask(*forty, place(0), place(20), place(39))[40:], [[0], [20], [39]])

    def test_numbers_at_the_edges(self):
        self.assertEqual(ask(add(0), add(999), place(0), place(999))[2:], [[0], [1]])

    def test_those_passed_as_often_as_the_limit_first(self):
        calls = (config(1, 24), add(1, 0), add(2, 0), add(3, 9), serve(1), add(4, 9), place(1), place(2), place(4))
        self.assertEqual(ask(*calls)[6:], [[0], [1], [2]])

    def test_only_ready_items_count(self):
        calls = (add(1, 9, 1), add(2, 9, 2), add(3, 9, 0, [1]), add(4, 0), freeze(1), window(2, 5, 6), place(4))
        self.assertEqual(last(*calls), [0])

    def test_behind_serve_again_and_withdraw(self):
        calls = (add(1), add(2), add(3), serve(2), place(3), again(2), place(3), place(2), withdraw(2), place(3))
        self.assertEqual(ask(*calls)[4:], [[0], [2], [1], [0], [1], [0]])

    def test_behind_an_outcome(self):
        calls = (add(1), add(2, 9, 0, [1]), add(3), serve(1), place(2), place(3), outcome(1, 1), place(2), place(3))
        self.assertEqual(ask(*calls)[4:], [[-6], [0], [1], [0], [1]])

    def test_items_that_wait_and_are_not_ready(self):
        self.assertEqual(last(add(1), freeze(0), place(1)), [-6])
        self.assertEqual(last(add(1), freeze(ALL), place(1)), [-6])
        self.assertEqual(last(add(1), window(0, 5, 6), place(1)), [-6])
        self.assertEqual(last(add(1), add(2, 0, 0, [1]), place(2)), [-6])
        self.assertEqual(last(add(1), add(2, 0, 0, [1]), withdraw(1), place(2)), [-6])

    def test_items_that_run_or_ended(self):
        calls = (add(1), add(2), add(3), add(4), withdraw(4), serve(3), outcome(2, 1), outcome(3, 0))
        for number in (1, 2, 3, 4):
            with self.subTest(number=number):
                self.assertEqual(last(*calls, place(number)), [-6])

    def test_a_number_that_no_item_has(self):
        for number in (-1, 0, 4, 999, 1000, -FAR, FAR):
            with self.subTest(number=number):
                self.assertEqual(ask(place(number)), [[-6]])
                self.assertEqual(last(*ITEMS, place(number)), [-6])

    def test_asking_changes_nothing(self):
        queue = queue_after(*ITEMS, serve(1))
        before = snapshot(queue)
        for number in (1, 2, 3, 5, 7, 9, -1, -FAR, FAR):
            tell(queue, place(number))
            self.assertEqual(snapshot(queue), before)


if __name__ == "__main__":
    unittest.main()
