"""Promise 5."""

import unittest

from asking import FAR, add, ask, order, serve, snapshot, tell, tick
from agingqueue.state import Queue


def queue_at(time):
    queue = Queue()
    queue.time = time
    return queue


class TickTest(unittest.TestCase):
    def test_time_is_zero_at_the_beginning(self):
        self.assertEqual(ask(tick(0)), [[0]])

    def test_goes_on(self):
        self.assertEqual(ask(tick(5), tick(7), tick(0), tick(1000)), [[5], [12], [12], [1012]])

    def test_edges(self):
        for n, answer in ((-1, -1), (0, 0), (1, 1), (1000, 1000), (1001, -1), (-FAR, -1), (FAR, -1)):
            with self.subTest(n=n):
                self.assertEqual(ask(tick(n)), [[answer]])

    def test_four_hundred_times(self):
        self.assertEqual(ask(*[tick(1000)] * 400)[-1], [400000])

    def test_up_to_a_million(self):
        self.assertEqual(tell(queue_at(999000), tick(1000)), [1000000])
        self.assertEqual(tell(queue_at(999999), tick(1)), [1000000])
        self.assertEqual(tell(queue_at(1000000), tick(0)), [1000000])

    def test_above_a_million(self):
        self.assertEqual(tell(queue_at(999001), tick(1000)), [-7])
        self.assertEqual(tell(queue_at(999999), tick(2)), [-7])
        self.assertEqual(tell(queue_at(1000000), tick(1)), [-7])

    def test_out_of_range_is_told_first(self):
        self.assertEqual(tell(queue_at(1000000), tick(1001)), [-1])
        self.assertEqual(tell(queue_at(1000000), tick(-1)), [-1])

    def test_refusals_change_nothing(self):
        self.assertEqual(ask(tick(5), tick(-1), tick(1001), tick(FAR), tick(0))[-1], [5])
        queue = queue_at(999999)
        before = snapshot(queue)
        self.assertEqual(tell(queue, tick(2)), [-7])
        self.assertEqual(snapshot(queue), before)

    def test_passes_nobody(self):
        calls = (add(1, 0), add(2, 9), tick(1000), tick(1000), tick(1000), order(), serve(1), tick(0))
        self.assertEqual(ask(*calls)[5:], [[2, 2, 1], [1, 2], [3001]])


if __name__ == "__main__":
    unittest.main()
