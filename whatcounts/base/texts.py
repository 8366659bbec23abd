"""The order of texts, and all texts of a size."""


def text_order(text):
    """What tells the place of a text among others: its length, then its letters."""
    return len(text), text


def all_texts(letters, size):
    """The tuple of all texts of at most so many letters, in order."""
    found = [""]
    longest = [""]
    for _ in range(size):
        longest = [text + letter for text in longest for letter in letters]
        found.extend(longest)
    return tuple(found)
