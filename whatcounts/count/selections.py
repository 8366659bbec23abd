"""Selections of texts."""


def selections(text):
    """The dict from each selection of a text to the number of the sets of places at which it stands."""
    found = {"": 1}
    for letter in text:
        longer = dict(found)
        for chosen, many in found.items():
            longer[chosen + letter] = longer.get(chosen + letter, 0) + many
        found = longer
    return found


def alternating_sum(pattern, numbers):
    """The sum, over all sets of places, of the number at what they select, times -1 for each place left out."""
    total = 0
    for chosen, many in selections(pattern).items():
        sign = 1 if (len(pattern) - len(chosen)) % 2 == 0 else -1
        total = total + sign * many * numbers[chosen]
    return total


def latest_places(text, pattern):
    """The list of the last places of a text at which a pattern is selected, or `None` if it is not."""
    places = []
    end = len(text)
    for letter in pattern[::-1]:
        end = text.rfind(letter, 0, end)
        if end < 0:
            return None
        places.append(end)
    return places[::-1]


def first_places(text, pattern, start):
    """The list of the first places of a text, from a start on, at which a pattern is selected."""
    places = []
    at = start
    for letter in pattern:
        at = text.find(letter, at) + 1
        places.append(at - 1)
    return places


def next_places(text, pattern, places, latest):
    """The list of places that comes next in Python's order, or `None` if there is none."""
    for at in range(len(pattern) - 1, -1, -1):
        moved = text.find(pattern[at], places[at] + 1)
        # up to its latest place, each letter leaves room for all that come behind it
        if 0 <= moved <= latest[at]:
            return places[:at] + [moved] + first_places(text, pattern[at + 1:], moved + 1)
    return None
