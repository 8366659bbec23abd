"""The commands of a shell: what their words tell, and what they do at a desk."""

from whatcounts.base.names import ALPHABET, MAX_DEPTH
from whatcounts.errors import InvalidOperation
from whatcounts.far.programs import period, round_of
from whatcounts.reader.least import answers, first_merge
from whatcounts.reader.readers import Reader
from whatcounts.sums.sums import Sum
from whatcounts.tally.ranks import rank
from whatcounts.tally.tallies import tally_of
from whatcounts.text.formats import write_reader, write_sum, write_value
from whatcounts.text.words import integers_of, is_written_integer

DONE = "done"
NONE = "none"


def do_push(desk, parts):
    """Put a text behind the text."""
    desk.push(parts[0])
    return DONE


def do_lead(desk, parts):
    """Put a text ahead of the text."""
    desk.lead(parts[0])
    return DONE


def do_repeat(desk, parts):
    """Put so many of the text one behind the other."""
    desk.repeat(parts[0])
    return DONE


def do_sum(desk, parts):
    """Watch a sum."""
    desk.watch(parts[0], Sum(desk.letters, parts[1], prime=desk.prime))
    return DONE


def do_reader(desk, parts):
    """Watch a reader."""
    desk.watch(parts[0], Reader(desk.letters, parts[1], parts[2]))
    return DONE


def do_drop(desk, parts):
    """Watch a name no longer."""
    desk.drop(parts[0])
    return DONE


def do_hold(desk, parts):
    """Hold the number of a name."""
    desk.hold(parts[0])
    return DONE


def do_release(desk, parts):
    """Hold the number of a name no longer."""
    desk.release(parts[0])
    return DONE


def do_undo(desk, parts):
    """Take back calls."""
    desk.undo(many=parts[0])
    return DONE


def do_redo(desk, parts):
    """Do calls again."""
    desk.redo(many=parts[0])
    return DONE


def tell_names(desk, parts):
    """The names."""
    return " ".join(desk.names) or NONE


def tell_held(desk, parts):
    """The held names."""
    return " ".join(desk.held) or NONE


def tell_size(desk, parts):
    """The number of letters."""
    return str(desk.size)


def tell_number(desk, parts):
    """The number of a name."""
    return str(desk.number(parts[0]))


def tell_numbers(desk, parts):
    """A line for each name, with the number at the text with a text behind it."""
    numbers = desk.numbers(parts[0])
    return "\n".join([f"{name} {number}" for name, number in numbers.items()]) or NONE


def tell_count(desk, parts):
    """The count of a pattern."""
    table = desk.table(MAX_DEPTH)
    return str(table[parts[0]])


def tell_way(desk, parts):
    """The first text that makes the number of a reader 1."""
    way = desk.way(parts[0])
    return NONE if way is None else "=" + way


def tell_function(desk, parts):
    """The text of a function."""
    function = desk[parts[0]]
    return write_sum(function) if isinstance(function, Sum) else write_reader(function)


def tell_merge(desk, parts):
    """The text of the first merge of a reader."""
    return write_value(first_merge(reader_at(desk, parts[0])))


def tell_rank(desk, parts):
    """The rank of the tally of a function."""
    function = desk[parts[0]]
    if isinstance(function, Sum):
        return str(rank(tally_of(function)))
    return str(rank(answers(function, prime=desk.prime)))


def tell_period(desk, parts):
    """The period of a sum at a text."""
    function = desk[parts[0]]
    if not isinstance(function, Sum):
        raise InvalidOperation("a reader has the name")
    return str(period(function, parts[1]))


def tell_round(desk, parts):
    """The start and the period with which the answers of a reader come round."""
    start, size = round_of(reader_at(desk, parts[0]), parts[1])
    return f"{start} {size}"


def reader_at(desk, name):
    """The reader that has a name."""
    function = desk[name]
    if isinstance(function, Sum):
        raise InvalidOperation("a sum has the name")
    return function


ACTIONS = {
    "push": do_push, "lead": do_lead, "repeat": do_repeat, "sum": do_sum, "reader": do_reader, "drop": do_drop,
    "hold": do_hold, "release": do_release, "undo": do_undo, "redo": do_redo, "names": tell_names, "held": tell_held,
    "size": tell_size, "number": tell_number, "numbers": tell_numbers, "count": tell_count, "way": tell_way,
    "show": tell_function, "merge": tell_merge, "rank": tell_rank, "period": tell_period, "round": tell_round,
}
KINDS = {
    "push": ("text",), "lead": ("text",), "repeat": ("many",), "drop": ("name",), "hold": ("name",),
    "release": ("name",), "undo": ("many",), "redo": ("many",), "names": (), "held": (), "size": (),
    "number": ("name",), "numbers": ("text",), "count": ("text",), "way": ("name",), "show": ("name",),
    "merge": ("name",), "rank": ("name",), "period": ("name", "text"), "round": ("name", "text"),
}


def done_by(desk, words, parts):
    """What the command of some words answers."""
    action = ACTIONS[words[0]]
    return action(desk, parts)


def parts_told(letters, words):
    """The tuple of what the words behind that of a command tell, or `None` if this is no command."""
    if "" in words or words[0] not in ACTIONS:
        return None
    if words[0] == "sum":
        return parts_of_sum(words[1:])
    if words[0] == "reader":
        return parts_of_reader(letters, words[1:])
    if words == ["undo"] or words == ["redo"]:
        return (1,)
    return parts_by_kinds(KINDS[words[0]], words[1:])


def parts_by_kinds(kinds, words):
    """What words of some kinds tell, or `None` if they are of others."""
    if len(words) != len(kinds) or not all([is_of_kind(kind, word) for kind, word in zip(kinds, words)]):
        return None
    return tuple([told_by_kind(kind, word) for kind, word in zip(kinds, words)])


def is_of_kind(kind, word):
    """Whether a word is of a kind."""
    if kind == "text":
        return word[0] == "=" and word[1:].strip(ALPHABET) == ""
    return kind == "name" or (is_written_integer(word) and (kind == "number" or int(word) >= 0))


def told_by_kind(kind, word):
    """What a word of a kind tells."""
    if kind == "text":
        return word[1:]
    return word if kind == "name" else int(word)


def parts_of_sum(words):
    """The name and the weights that words tell, or `None`."""
    parts = parts_by_kinds(("name",) + ("number", "text") * (len(words) // 2), words)
    if parts is None:
        return None
    weights = {pattern: number for number, pattern in zip(parts[1::2], parts[2::2])}
    return (parts[0], weights) if 2 * len(weights) + 1 == len(parts) else None


def parts_of_reader(letters, words):
    """The name, the moves and the states that answer yes that words tell, or `None`."""
    heads = list(letters) + ["yes"]
    rows = []
    left = words[1:]
    for at, head in enumerate(heads):
        many = 1
        while many < len(left) and is_written_integer(left[many]):
            many = many + 1
        if left[:1] != [head] or (many == 1 and at < len(letters)):
            return None
        rows.append(integers_of(left[1:many]))
        left = left[many:]
    if left:
        return None
    return words[0], {letter: row for letter, row in zip(letters, rows)}, rows[-1]
