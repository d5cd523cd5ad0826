"""Going through the list of calls, number by number."""


class Reader:
    """Reads a list from its beginning and leaves it as it is."""

    def __init__(self, numbers):
        self.numbers = numbers
        self.position = 0

    def is_done(self):
        return self.position >= len(self.numbers)

    def take(self):
        return self.take_several(1)[0]

    def take_several(self, amount):
        behind = self.position + amount
        taken = self.numbers[self.position:behind]
        self.position = behind
        return taken

    def take_row(self):
        amount = self.take()
        return self.take_several(amount)
