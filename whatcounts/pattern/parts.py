"""How patterns come apart into leading patterns."""


def leading_factors(pattern):
    """The tuple of leading patterns, none less than the next one, that are the pattern one behind the other."""
    found = []
    start = 0
    while start < len(pattern):
        # from the start on the text repeats itself, up to an end that is yet to come, every so many letters
        again, end = start, start + 1
        while end < len(pattern) and pattern[again] <= pattern[end]:
            again = start if pattern[again] < pattern[end] else again + 1
            end = end + 1
        size = end - again
        while start <= again:
            found.append(pattern[start:start + size])
            start = start + size
    return tuple(found)


def cut_in_halves(pattern):
    """The halves of a leading pattern of at least two letters."""
    # the last factor is the least end, so no longer end is a leading pattern
    end = leading_factors(pattern[1:])[-1]
    return pattern[:len(pattern) - len(end)], end


def bracket_parts(pattern):
    """The leading pattern, its halves, theirs and so on, each one once, the shorter ones ahead."""
    parts = {}
    todo = [pattern]
    while todo:
        part = todo.pop()
        if part not in parts:
            parts[part] = True
            if len(part) > 1:
                todo.extend(cut_in_halves(part))
    return sorted(parts, key=len)
