"""Reading calls, one number behind another, out of one list."""


class Reader:
    """Reads the list that was handed in, and never writes to it."""

    def __init__(self, calls):
        self.calls = calls
        self.place = 0

    def has_more(self):
        return self.place < len(self.calls)

    def take_whole(self):
        whole = self.calls[self.place]
        self.place += 1
        return whole

    def take_row(self):
        size = self.take_whole()
        row = self.calls[self.place:self.place + size]
        self.place += size
        return row
