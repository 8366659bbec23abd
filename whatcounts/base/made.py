"""What the package hands to its own constructors."""


class Made:
    """Content that the package has reckoned itself.

    Integers that are passed have at most two hundred digits, those that objects come to have can be longer.
    A constructor therefore takes such content as it is, and checks all other.
    """

    def __init__(self, content):
        self.content = content
