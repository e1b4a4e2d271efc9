"""Going through a list of numbers from its front."""


class Reader:
    """A list of numbers and how far it has been read; the list itself is never changed."""

    def __init__(self, numbers):
        self.numbers = numbers
        self.place = 0

    def at_end(self):
        return self.place >= len(self.numbers)

    def take(self):
        number = self.numbers[self.place]
        self.place += 1
        return number

    def take_row(self):
        """A row has before it how many numbers it has."""
        count = self.take()
        row = self.numbers[self.place:self.place + count]
        self.place += count
        return row
