"""What a desk is at one time, and the row of these times."""

from whatcounts.base.arithmetic import rest_of
from whatcounts.base.names import MAX_DEPTH
from whatcounts.base.texts import all_texts
from whatcounts.far.tools import CountTool, StateTool
from whatcounts.sums.sums import Sum

ALIKE_DEPTH = 3


class FarText:
    """A text: its number of letters, its counts, and the steps by which it came out of the empty text."""

    def __init__(self, earlier, step, many, counts):
        self.earlier = earlier
        self.step = step
        self.many = many
        self.counts = counts

    def all_steps(self):
        """The list of the steps, in order."""
        steps = []
        at = self
        while at.earlier is not None:
            steps.append(at.step)
            at = at.earlier
        return steps[::-1]


class Scene:
    """A text, the functions that are watched by name, where the text leads the states of readers, and held names."""

    def __init__(self, text_so_far, functions, ways, kept):
        self.text_so_far = text_so_far
        self.functions = functions
        self.ways = ways
        self.kept = kept

    def with_function(self, name, function):
        """The scene in which a function more is watched."""
        functions = {**self.functions, name: function}
        ways = dict(self.ways)
        if not isinstance(function, Sum):
            ways[name] = way_of(function, self.text_so_far)
        return Scene(self.text_so_far, {each: functions[each] for each in sorted(functions)}, ways, self.kept)

    def without_function(self, name):
        """The scene in which a function is watched no longer."""
        functions = {each: function for each, function in self.functions.items() if each != name}
        ways = {each: way for each, way in self.ways.items() if each != name}
        return Scene(self.text_so_far, functions, ways, self.kept)

    def with_kept(self, kept):
        """The scene with these held names."""
        return Scene(self.text_so_far, self.functions, self.ways, tuple(sorted(kept)))

    def stepped(self, letters, step):
        """The scene with the text after a step."""
        after = text_after(letters, self.text_so_far, step)
        ways = {name: led_by(state_tool(self.functions[name]), way, step) for name, way in self.ways.items()}
        return Scene(after, self.functions, ways, self.kept)

    def number_of(self, name):
        """The number of a watched function at the text."""
        function = self.functions[name]
        if isinstance(function, Sum):
            return sum_at(function, self.text_so_far.counts)
        return 1 if self.ways[name][0] in function.yes else 0


class History:
    """The scenes of a desk, one after each call that can be undone, and the place of the one that is now."""

    def __init__(self, scenes, at):
        self.scenes = scenes
        self.at_scene = at
        self.now = scenes[at]
        self.ordered = tuple(scenes[at].functions)

    def with_next(self, scene):
        """The history with a scene more, behind which nothing can be done again."""
        return History(self.scenes[:self.at_scene + 1] + (scene,), self.at_scene + 1)

    def moved(self, by):
        """The history in which another scene is now, so many further on."""
        return History(self.scenes, self.at_scene + by)


def are_alike_scenes(one, other):
    """Whether two scenes have equal functions and held names, and texts with as many letters and alike counts."""
    if one.functions != other.functions or one.kept != other.kept or one.text_so_far.many != other.text_so_far.many:
        return False
    counts, others = one.text_so_far.counts, other.text_so_far.counts
    return all([counts[pattern] == others[pattern] for pattern in counts if len(pattern) <= ALIKE_DEPTH])


def first_history(letters):
    """The history of a new desk."""
    counts = count_tool(letters).written("")
    return History((Scene(FarText(None, None, 0, counts), {}, {}, ()),), 0)


def count_tool(letters):
    """The tool for the counts of a text."""
    return CountTool(all_texts(letters, MAX_DEPTH), None)


def state_tool(reader):
    """The tool for the ways in which texts lead the states of a reader."""
    return StateTool(reader.moves, len(reader))


def size_after(many, step):
    """The number of letters of a text after a step, by the number ahead of it."""
    return many * step[1] if step[0] == "repeat" else many + len(step[1])


def led_by(tool, made, step):
    """What a tool reckons for a text after a step, by what it reckoned ahead of it."""
    if step[0] == "push":
        return tool.joined(made, tool.written(step[1]))
    if step[0] == "lead":
        return tool.joined(tool.written(step[1]), made)
    return tool.repeated(made, step[1]) if step[1] > 0 else tool.written("")


def text_after(letters, text_so_far, step):
    """The text after a step."""
    many = size_after(text_so_far.many, step)
    counts = led_by(count_tool(letters), text_so_far.counts, step)
    # it does not matter how an empty text came to be
    return FarText(text_so_far if many > 0 else None, step, many, counts)


def way_of(reader, text_so_far):
    """Where a text leads the states of a reader."""
    tool = state_tool(reader)
    way = tool.written("")
    for step in text_so_far.all_steps():
        way = led_by(tool, way, step)
    return way


def sum_at(total, counts):
    """The number of a sum, by the counts of all short patterns."""
    return rest_of(sum([number * counts[pattern] for pattern, number in total.weights.items()]), total.prime)
