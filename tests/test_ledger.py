import random
import unittest

from beadmoot.ledger import Ledger
from tests.helpers import refusal

TOP = 10 ** 12


class Purse(unittest.TestCase):
    """Point 97: the coins."""

    def test_creation(self):
        for coins in (0, 1, TOP):
            ledger = Ledger(coins)
            self.assertEqual((ledger.balance(), ledger.payments(), ledger.spent("a")), (coins, [], 0))
        for coins in (-1, TOP + 1, -10 ** 99, 10 ** 99):
            self.assertEqual(refusal(Ledger, coins), ("BadCoins", coins))
        self.assertEqual(Ledger(coins=7).balance(), 7)

    def test_pay(self):
        ledger = Ledger(10)
        self.assertIsNone(ledger.pay("row", 3, "edge", 4))
        self.assertIsNone(ledger.pay(name="row", bead=1, mark="odd", price=0))
        self.assertEqual(ledger.balance(), 6)
        self.assertEqual(ledger.payments(), [("row", 3, "edge", 4), ("row", 1, "odd", 0)])
        self.assertEqual(refusal(ledger.pay, "row", 2, "edge", 7), ("NoCoins", 7, 6))
        self.assertEqual(refusal(ledger.pay, "row", 2, "edge", 10 ** 9), ("NoCoins", 10 ** 9, 6))
        self.assertEqual((ledger.balance(), len(ledger.payments())), (6, 2))
        ledger.pay("other", 2, "strife", 6)
        self.assertEqual(ledger.balance(), 0)
        ledger.pay("other", 5, "quiet", 0)
        self.assertEqual(refusal(ledger.pay, "row", 2, "edge", 1), ("NoCoins", 1, 0))
        self.assertEqual((ledger.spent("row"), ledger.spent("other"), ledger.spent("none")), (4, 6, 0))

    def test_pay_in(self):
        ledger = Ledger(0)
        self.assertIsNone(ledger.pay_in(1))
        self.assertIsNone(ledger.pay_in(amount=10 ** 9))
        self.assertEqual(ledger.balance(), 10 ** 9 + 1)
        for amount in (0, -1, 10 ** 9 + 1, 10 ** 99, -10 ** 99):
            self.assertEqual(refusal(ledger.pay_in, amount), ("BadCoins", amount))
        self.assertEqual((ledger.balance(), ledger.payments()), (10 ** 9 + 1, []))

    def test_the_greatest_balance(self):
        ledger = Ledger(TOP - 5)
        self.assertEqual(refusal(ledger.pay_in, 6), ("BadCoins", 6))
        ledger.pay_in(5)
        self.assertEqual(ledger.balance(), TOP)
        self.assertEqual(refusal(ledger.pay_in, 1), ("BadCoins", 1))
        ledger.pay("a", 1, "odd", 10 ** 9)
        ledger.pay_in(10 ** 9)
        self.assertEqual(ledger.balance(), TOP)


class Undoing(unittest.TestCase):
    """Point 97: `take_back`."""

    def test_payments_and_payings_in(self):
        ledger = Ledger(5)
        ledger.pay("a", 1, "odd", 5)
        ledger.pay_in(3)
        ledger.pay("b", 2, "quiet", 0)
        self.assertEqual(ledger.take_back(), ("b", 2, "quiet", 0))
        self.assertEqual(ledger.take_back(), 3)
        self.assertEqual((ledger.balance(), ledger.payments()), (0, [("a", 1, "odd", 5)]))
        self.assertEqual(ledger.take_back(), ("a", 1, "odd", 5))
        self.assertEqual((ledger.balance(), ledger.payments(), ledger.spent("a")), (5, [], 0))
        self.assertEqual(refusal(ledger.take_back), ("NothingToUndo",))

    def test_refused_changes_are_not_taken_back(self):
        ledger = Ledger(1)
        ledger.pay_in(2)
        refusal(ledger.pay, "a", 1, "odd", 9)
        refusal(ledger.pay_in, 0)
        self.assertEqual(ledger.take_back(), 2)
        self.assertEqual(refusal(ledger.take_back), ("NothingToUndo",))
        self.assertEqual(ledger.balance(), 1)

    def test_against_a_list_of_states(self):
        chance = random.Random(97)
        ledger = Ledger(50)
        coins, changes = 50, []
        for _ in range(1000):
            deed = chance.choice(["pay", "pay", "in", "back"])
            amount = chance.randrange(30)
            entry = (chance.choice("ab"), chance.randrange(9), "edge", amount)
            if deed == "pay" and amount <= coins:
                ledger.pay(*entry)
                changes.append((entry, coins))
                coins -= amount
            elif deed == "in" and amount:
                ledger.pay_in(amount)
                changes.append((amount, coins))
                coins += amount
            elif deed == "back" and changes:
                worth, coins = changes.pop()
                self.assertEqual(ledger.take_back(), worth)
            entries = [worth for worth, _ in changes if isinstance(worth, tuple)]
            self.assertEqual((ledger.balance(), ledger.payments()), (coins, entries))
            self.assertEqual(ledger.spent("a"), sum(price for name, _, _, price in entries if name == "a"))

    def test_the_lists_are_new(self):
        ledger = Ledger(5)
        ledger.pay("a", 1, "odd", 5)
        ledger.payments().clear()
        self.assertEqual(ledger.payments(), [("a", 1, "odd", 5)])


if __name__ == "__main__":
    unittest.main()
