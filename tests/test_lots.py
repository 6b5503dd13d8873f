import unittest

from turnhouse.lots import joined, lot_of, renamed, rooms_in


class Lots(unittest.TestCase):
    def test_rooms_of_a_lot(self):
        for rooms in [[], [0], [1], [0, 1], [3, 5, 64], list(range(200)), [7, 999, 1000]]:
            self.assertEqual(rooms_in(lot_of(rooms)), rooms)

    def test_order_and_repetition_do_not_matter(self):
        self.assertEqual(lot_of([5, 2, 2, 0]), lot_of([0, 2, 5]))
        self.assertEqual(lot_of([]), 0)

    def test_joined(self):
        lots = [lot_of([0, 3]), lot_of([]), lot_of([3, 70]), lot_of([1])]
        self.assertEqual(joined(lots, lot_of([])), 0)
        self.assertEqual(joined(lots, lot_of([0])), lot_of([0, 3]))
        self.assertEqual(joined(lots, lot_of([0, 1, 2])), lot_of([0, 3, 70]))
        self.assertEqual(joined(lots, lot_of([0, 1, 2, 3])), lot_of([0, 1, 3, 70]))

    def test_renamed(self):
        names = [4, None, 4, 0]
        self.assertEqual(renamed(lot_of([]), names), 0)
        self.assertEqual(renamed(lot_of([0, 2]), names), lot_of([4]))
        self.assertEqual(renamed(lot_of([0, 1, 3]), names), lot_of([0, 4]))
        self.assertEqual(renamed(lot_of([1]), names), 0)


if __name__ == "__main__":
    unittest.main()
