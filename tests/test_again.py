"""Promise 8: again, and the order, serve and who was passed behind it."""

import unittest

from asking import (ALL, FAR, add, again, ask, config, freeze, last, order, outcome, queue_after, serve, snapshot,
                    status, tell, thaw, why, window, withdraw)


class AgainTest(unittest.TestCase):
    def test_with_none_waiting(self):
        self.assertEqual(ask(add(1), serve(1), again(1), why(1), order())[2:], [[1], [1, 0], [1, 1]])

    def test_with_items_waiting(self):
        calls = (add(1), add(2), add(3), serve(1), again(1), order(), status())
        self.assertEqual(ask(*calls)[4:], [[3], [3, 1, 2, 3], [3, 24, 1, 3, 0, 0, 0]])

    def test_as_the_first_that_came(self):
        calls = (config(0, 24), add(1), add(2), serve(2), add(3), add(4, 9), again(2), order())
        self.assertEqual(last(*calls), [3, 2, 3, 4])

    def test_first_among_the_same_priority_alone(self):
        calls = (add(1, 5), serve(1), add(2, 6), add(3, 5), add(4, 4), again(1), order())
        self.assertEqual(last(*calls), [4, 2, 1, 3, 4])

    def test_before_an_item_that_was_frozen_meanwhile(self):
        calls = (add(1), add(2, 0, 1), freeze(0), serve(1), again(2), thaw(0), order())
        self.assertEqual(last(*calls), [2, 2, 1])

    def test_the_last_put_back_is_the_first(self):
        calls = (add(1), add(2), add(3), add(4), serve(3), again(2), again(1), again(3), order())
        self.assertEqual(ask(*calls)[5:], [[2], [3], [4], [4, 3, 1, 2, 4]])

    def test_several_with_none_waiting(self):
        calls = (add(1), add(2), serve(2), again(1), again(2), order())
        self.assertEqual(ask(*calls)[3:], [[1], [2], [2, 2, 1]])

    def test_those_that_run_still_run(self):
        calls = (add(1), add(2), add(3), serve(3), again(2), why(1), why(2), why(3), status())
        self.assertEqual(ask(*calls)[4:], [[1], [6], [1, 0], [6], [3, 24, 1, 1, 2, 0, 0]])

    def test_items_that_come_later_come_behind(self):
        self.assertEqual(last(add(1), serve(1), again(1), add(2), order()), [2, 1, 2])

    def test_over_and_over(self):
        calls = [add(1, 0), add(2, 0)] + [serve(1), again(1)] * 5 + [order()]
        self.assertEqual(ask(*calls)[2:], [[1, 1], [2]] * 5 + [[2, 1, 2]])

    def test_forty(self):
        forty = [add(number) for number in range(40)]
        back = [again(number) for number in range(40)]
        asked = ask(*forty, serve(40), *back, add(40), order())[41:]
        self.assertEqual(asked, [[count] for count in range(1, 41)] + [[-7], [40] + list(range(39, -1, -1))])

    def test_leaves_no_room(self):
        forty = [add(number) for number in range(40)]
        self.assertEqual(ask(*forty, serve(5), again(3), add(40))[41:], [[36], [-7]])

    def test_waits_again_where_it_is_not_ready(self):
        start = (add(1), serve(1))
        self.assertEqual(ask(*start, freeze(0), again(1), why(1), order())[3:], [[1], [2], [0]])
        self.assertEqual(ask(*start, freeze(ALL), again(1), why(1), order())[3:], [[1], [2], [0]])
        self.assertEqual(ask(*start, window(0, 5, 6), again(1), why(1), order())[3:], [[1], [3], [0]])

    def test_needs_stay(self):
        calls = (add(1), serve(1), outcome(1, 1), add(2, 0, 0, [1]), serve(1), again(2), why(2), order())
        self.assertEqual(ask(*calls)[5:], [[1], [1, 0], [1, 2]])

    def test_a_need_that_was_put_back_has_not_landed(self):
        calls = (add(1), add(2, 9, 0, [1]), serve(1), again(1), why(2), order())
        self.assertEqual(ask(*calls)[4:], [[4, 1, 1], [1, 1]])

    def test_a_number_that_no_item_has(self):
        for number in (-1, 0, 2, 999, 1000, -FAR, FAR):
            with self.subTest(number=number):
                self.assertEqual(last(add(1), serve(1), again(number)), [-6])

    def test_an_item_that_waits(self):
        self.assertEqual(ask(add(1), add(2), again(2), order())[2:], [[-6], [2, 1, 2]])
        self.assertEqual(ask(add(1), serve(1), again(1), again(1))[2:], [[1], [-6]])

    def test_an_item_that_ended(self):
        calls = (add(1), add(2), add(3), withdraw(3), serve(2), outcome(1, 1), outcome(2, 0))
        for number, told in ((1, 7), (2, 8), (3, 9)):
            with self.subTest(number=number):
                self.assertEqual(ask(*calls, again(number), why(number), order())[7:], [[-6], [told], [0]])

    def test_refusals_change_nothing(self):
        queue = queue_after(add(1), add(2), add(3), serve(2), outcome(1, 1))
        before = snapshot(queue)
        for number in (1, 3, 4, -1, -FAR, FAR):
            with self.subTest(number=number):
                self.assertEqual(tell(queue, again(number)), [-6])
                self.assertEqual(snapshot(queue), before)


class PassedBehindAgainTest(unittest.TestCase):
    def test_how_often_it_was_passed_stays(self):
        start = (add(1, 0), add(2, 9), add(3, 8), serve(1), serve(1))
        calls = (*start, why(1), serve(1), again(1), why(1))
        self.assertEqual(ask(*calls)[5:], [[1, 2], [1, 1], [1], [1, 2]])

    def test_passed_as_often_as_the_limit_still_goes_first(self):
        calls = (config(1, 24), add(1, 0), add(2, 9), serve(1), serve(1), add(3, 9), again(1), order())
        self.assertEqual(last(*calls), [2, 1, 3])

    def test_put_back_goes_first_of_those_passed_as_often_as_the_limit(self):
        calls = (config(1, 24), add(1, 0), add(2, 0), add(3, 9), serve(1), serve(2), again(1), again(2), order())
        self.assertEqual(last(*calls), [2, 2, 1])

    def test_it_passes_nobody_when_served_again(self):
        calls = (add(1, 0), add(2, 9), serve(1), again(2), why(1), serve(1), why(1))
        self.assertEqual(ask(*calls)[4:], [[1, 1], [1, 2], [1, 1]])

    def test_it_is_passed_by_all_that_wait_then(self):
        calls = (add(1, 0), add(2, 1), serve(1), again(2), add(3, 9), serve(1), why(1), why(2))
        self.assertEqual(ask(*calls)[5:], [[1, 3], [1, 2], [1, 1]])

    def test_it_is_passed_by_one_that_came_before_it_at_first(self):
        calls = (add(1, 5, 1), add(2, 0), freeze(1), serve(1), again(2), thaw(1), serve(1), why(2))
        self.assertEqual(ask(*calls)[3:], [[1, 2], [2], [0], [1, 1], [1, 1]])

    def test_the_order_of_coming_back_tells_who_is_passed(self):
        start = (config(9, 24), add(1, 1), add(2, 2), add(3, 3), serve(3))
        calls = (*start, again(1), again(2), again(3), serve(1), why(1), why(2))
        self.assertEqual(ask(*calls)[8:], [[1, 3], [1, 0], [1, 0]])
        calls = (*start, again(3), again(2), again(1), serve(1), why(1), why(2))
        self.assertEqual(ask(*calls)[8:], [[1, 3], [1, 1], [1, 1]])
        calls = (*start, again(2), again(3), again(1), serve(1), why(1), why(2))
        self.assertEqual(ask(*calls)[8:], [[1, 3], [1, 1], [1, 0]])

    def test_none_is_passed_more_often_than_the_limit(self):
        for limit in (0, 1, 2, 3):
            calls = [config(limit, 24), add(1, 0), add(2, 0), add(3, 1)]
            for number in range(100, 125):
                calls += [add(number, 9), serve(1), again(1), again(3), why(1), why(2), why(3)]
            asked = ask(*calls)
            told = [answer for call, answer in zip(calls, asked) if call in (why(1), why(2), why(3))]
            with self.subTest(limit=limit):
                self.assertEqual(max(answer[1] for answer in told if answer[0] == 1), limit)


if __name__ == "__main__":
    unittest.main()
