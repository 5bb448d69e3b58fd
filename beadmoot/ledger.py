"""The ledger: a purse of coins, and what was paid from it."""

from beadmoot.errors import BadCoins, NoCoins, NothingToUndo

MOST_COINS = 10 ** 12
MOST_PAID_IN = 10 ** 9


class Ledger:
    """A purse that never holds fewer than 0 coins; each change can be taken back."""

    def __init__(self, coins):
        if not 0 <= coins <= MOST_COINS:
            raise BadCoins(coins)
        self._coins = coins
        # Pairs (worth, coins): the entry of a payment or the amount of a paying in, and the coins before it.
        self._changes = []

    def balance(self):
        """Return the number of coins in the purse."""
        return self._coins

    def pay(self, name, bead, mark, price):
        """Take a price out of the purse and write the entry."""
        if price > self._coins:
            raise NoCoins(price, self._coins)
        self._changes.append(((name, bead, mark, price), self._coins))
        self._coins = self._coins - price

    def pay_in(self, amount):
        """Add coins to the purse."""
        if not 1 <= amount <= MOST_PAID_IN or self._coins + amount > MOST_COINS:
            raise BadCoins(amount)
        self._changes.append((amount, self._coins))
        self._coins = self._coins + amount

    def take_back(self):
        """Undo the last payment or paying in and return the entry or the amount."""
        if not self._changes:
            raise NothingToUndo()
        worth, coins = self._changes.pop()
        self._coins = coins
        return worth

    def payments(self):
        """Return the entries of the payments, in order."""
        return [worth for worth, _ in self._changes if isinstance(worth, tuple)]

    def spent(self, name):
        """Return the sum of the prices that were paid under a name."""
        return sum([entry[3] for entry in self.payments() if entry[0] == name])
