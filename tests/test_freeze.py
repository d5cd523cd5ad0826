"""Promise 4."""

import unittest

from asking import ALL, FAR, add, ask, freeze, last, order, serve, thaw, window

ITEMS = [add(group, 0, group) for group in range(8)]
EVERY = [8, 0, 1, 2, 3, 4, 5, 6, 7]


class FreezeTest(unittest.TestCase):
    def test_edges_of_the_class(self):
        for group, answer in ((-2, -1), (-1, 0), (0, 0), (7, 0), (8, -1), (-FAR, -1), (FAR, -1)):
            with self.subTest(group=group):
                self.assertEqual(ask(freeze(group), thaw(group)), [[answer], [answer]])

    def test_thaw_by_itself(self):
        for group, answer in ((-2, -1), (-1, 0), (0, 0), (7, 0), (8, -1), (-FAR, -1), (FAR, -1)):
            with self.subTest(group=group):
                self.assertEqual(ask(thaw(group)), [[answer]])

    def test_nothing_is_frozen_at_the_beginning(self):
        self.assertEqual(last(*ITEMS, order()), EVERY)

    def test_one_class(self):
        for group in range(8):
            with self.subTest(group=group):
                others = [number for number in range(8) if number != group]
                self.assertEqual(last(*ITEMS, freeze(group), order()), [7] + others)

    def test_two_classes(self):
        self.assertEqual(last(*ITEMS, freeze(0), freeze(7), order()), [6, 1, 2, 3, 4, 5, 6])
        self.assertEqual(last(*ITEMS, freeze(0), freeze(7), thaw(0), order()), [7, 0, 1, 2, 3, 4, 5, 6])

    def test_everything(self):
        self.assertEqual(last(*ITEMS, freeze(ALL), order()), [0])
        self.assertEqual(last(*ITEMS, freeze(ALL), thaw(ALL), order()), EVERY)

    def test_ahead_of_the_items(self):
        self.assertEqual(last(freeze(2), *ITEMS, order()), [7, 0, 1, 3, 4, 5, 6, 7])
        self.assertEqual(last(freeze(ALL), *ITEMS, order()), [0])

    def test_frozen_items_are_not_served(self):
        self.assertEqual(last(add(1, 9, 2), add(2, 0, 3), freeze(2), serve(2)), [1, 2])

    def test_class_frozen_by_itself_stays_so_when_everything_is_thawed(self):
        but_four = [7, 0, 1, 2, 3, 5, 6, 7]
        self.assertEqual(last(*ITEMS, freeze(4), freeze(ALL), thaw(ALL), order()), but_four)
        self.assertEqual(last(*ITEMS, freeze(ALL), freeze(4), thaw(ALL), order()), but_four)
        self.assertEqual(last(*ITEMS, freeze(ALL), freeze(4), thaw(ALL), thaw(4), order()), EVERY)

    def test_everything_stays_frozen_when_a_class_is_thawed(self):
        self.assertEqual(last(*ITEMS, freeze(ALL), thaw(4), order()), [0])
        self.assertEqual(last(*ITEMS, freeze(4), freeze(ALL), thaw(4), order()), [0])
        self.assertEqual(last(*ITEMS, freeze(4), freeze(ALL), thaw(4), thaw(ALL), order()), EVERY)

    def test_frozen_twice_is_thawed_once(self):
        self.assertEqual(last(*ITEMS, freeze(4), freeze(4), thaw(4), order()), EVERY)
        self.assertEqual(last(*ITEMS, freeze(ALL), freeze(ALL), thaw(ALL), order()), EVERY)

    def test_thawed_ahead_is_no_promise(self):
        self.assertEqual(last(*ITEMS, thaw(4), freeze(4), order()), [7, 0, 1, 2, 3, 5, 6, 7])
        self.assertEqual(last(*ITEMS, thaw(ALL), freeze(ALL), order()), [0])

    def test_frozen_and_outside_its_window(self):
        calls = (add(1), window(0, 5, 6), freeze(0), order(), thaw(0), order(), window(0), order())
        self.assertEqual(ask(*calls)[3::2], [[0], [0], [1, 1]])

    def test_refusals_change_nothing(self):
        for group in (-2, 8, -FAR, FAR):
            with self.subTest(group=group):
                self.assertEqual(last(*ITEMS, freeze(group), order()), EVERY)
                self.assertEqual(last(*ITEMS, freeze(ALL), thaw(group), order()), [0])
                self.assertEqual(last(*ITEMS, freeze(7), thaw(group), order()), [7, 0, 1, 2, 3, 4, 5, 6])


if __name__ == "__main__":
    unittest.main()
