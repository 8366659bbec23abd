"""Blocks at whose end a desk is as it was at the beginning."""


class Kept:
    """The history of a desk at the beginning of a block, and what was kept for the block around it."""

    def __init__(self, history, around):
        self.history = history
        self.around = around


class Trial:
    """A block for `with`, which gives the desk and takes back what is done to it."""

    def __init__(self, tried):
        self.tried = tried
        self.kept = None

    def __enter__(self):
        self.kept = Kept(self.tried.history, self.kept)
        return self.tried

    def __exit__(self, kind, value, trace):
        self.tried.history = self.kept.history
        self.kept = self.kept.around
