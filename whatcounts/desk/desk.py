"""A desk: a text that can come to have very many letters, and functions that are watched at it."""

from whatcounts.base.checks import check_between, check_most, check_some_prime, check_text
from whatcounts.base.made import Made
from whatcounts.base.names import MAX_DEPTH, check_letters, is_integer, is_name
from whatcounts.desk.scenes import are_alike_scenes, count_tool, first_history, size_after, sum_at
from whatcounts.desk.trials import Trial
from whatcounts.errors import InvalidName, InvalidNumber, InvalidOperation, NothingToUndo, TooMany, UnknownName
from whatcounts.far.programs import MAX_SIZE
from whatcounts.far.steps import MAX_NUMBER
from whatcounts.reader.readers import Reader
from whatcounts.reader.walks import first_texts
from whatcounts.sums.sums import Sum
from whatcounts.table.tables import Table, check_depth

MAX_WATCHED = 8


class Desk:
    """A text, at first the empty one, and functions that are watched under names."""

    def __init__(self, letters, *, prime=None):
        check_letters(letters)
        check_some_prime(prime)
        self._letters = letters
        self._prime = prime
        self.history = first_history(letters)

    def push(self, text):
        """Put a text behind the text."""
        check_text(self._letters, text)
        self._step(("push", text))

    def lead(self, text):
        """Put a text ahead of the text."""
        check_text(self._letters, text)
        self._step(("lead", text))

    def repeat(self, number):
        """Put so many of the text one behind the other."""
        check_between(number, 0, MAX_NUMBER)
        self._step(("repeat", number))

    def watch(self, name, function):
        """Watch a function under a name."""
        if not is_name(name):
            raise InvalidName("a name has one to eight letters a to z")
        if not self._can_watch(function):
            raise InvalidOperation("watched are sums of degrees of at most five, and readers, with these letters")
        if name in self.history.now.functions:
            raise InvalidOperation("the name is watched already")
        check_most(len(self.history.ordered) + 1, MAX_WATCHED)
        self._go_on(self.history.now.with_function(name, function))

    def drop(self, name):
        """Watch a name no longer."""
        self._check_known(name)
        if name in self.history.now.kept:
            raise InvalidOperation("the name is held")
        self._go_on(self.history.now.without_function(name))

    def hold(self, name):
        """Hold the number of a name, so that no call changes it."""
        self._check_known(name)
        kept = self.history.now.kept
        if name in kept:
            raise InvalidOperation("the name is held already")
        self._go_on(self.history.now.with_kept(kept + (name,)))

    def release(self, name):
        """Hold the number of a name no longer."""
        self._check_known(name)
        kept = self.history.now.kept
        if name not in kept:
            raise InvalidOperation("the name is not held")
        self._go_on(self.history.now.with_kept([each for each in kept if each != name]))

    def number(self, name):
        """The number of a sum at the text, or 1 or 0 for a reader that answers yes or no."""
        self._check_known(name)
        return self.history.now.number_of(name)

    def numbers(self, text):
        """The dict from all names to the numbers at the text with a text behind it."""
        check_text(self._letters, text)
        now = self.history.now
        tool = count_tool(self._letters)
        counts = tool.joined(now.text_so_far.counts, tool.written(text))
        found = {}
        for name, function in now.functions.items():
            if isinstance(function, Sum):
                found[name] = sum_at(function, counts)
            else:
                found[name] = 1 if function.led(now.ways[name][0], text) in function.yes else 0
        return found

    def table(self, depth):
        """The table of the counts of the text."""
        check_depth(depth)
        counts = self.history.now.text_so_far.counts
        entries = [number for pattern, number in counts.items() if 1 <= len(pattern) <= depth]
        return Table(self._letters, depth, Made(entries), prime=self._prime)

    def way(self, name):
        """The first text that, behind the text, makes the number of a reader 1, or `None`."""
        self._check_known(name)
        reader = self.history.now.functions[name]
        if isinstance(reader, Sum):
            raise InvalidOperation("a sum has the name")
        for state, text in first_texts(reader.moves, self.history.now.ways[name][0]).items():
            if state in reader.yes:
                return text
        return None

    def undo(self, *, many=1):
        """Take back so many calls, and return how many can be undone then."""
        self._turn_back(many, self.history.at_scene, -1)
        return self.history.at_scene

    def redo(self, *, many=1):
        """Do so many calls again, and return how many can be undone then."""
        self._turn_back(many, len(self.history.scenes) - 1 - self.history.at_scene, 1)
        return self.history.at_scene

    def trial(self):
        """A block for `with`, at whose end the desk is as it was at its beginning."""
        return Trial(self)

    def during(self, call):
        """Call a function with the desk, and take back what it does."""
        with self.trial() as same:
            return call(same)

    def twin(self):
        """An independent copy."""
        other = Desk(self._letters, prime=self._prime)
        other.history = self.history
        return other

    @property
    def letters(self):
        """The letters."""
        return self._letters

    @property
    def prime(self):
        """The prime, or `None`."""
        return self._prime

    @property
    def size(self):
        """The number of letters of the text."""
        return self.history.now.text_so_far.many

    @property
    def names(self):
        """The tuple of the watched names."""
        return self.history.ordered

    @property
    def held(self):
        """The tuple of the held names."""
        return self.history.now.kept

    def __getitem__(self, name):
        self._check_known(name)
        return self.history.now.functions[name]

    def __contains__(self, value):
        return isinstance(value, str) and value in self.history.ordered

    def __len__(self):
        return len(self.history.ordered)

    def __iter__(self):
        return iter(self.history.ordered)

    def __eq__(self, other):
        return (isinstance(other, Desk) and self._letters == other._letters and self._prime == other._prime
                and are_alike_scenes(self.history.now, other.history.now))

    def __str__(self):
        return f"desk of {len(self.history.ordered)} functions over {self._letters}"

    def _check_known(self, name):
        if not isinstance(name, str) or name not in self.history.ordered:
            raise UnknownName(name)

    def _can_watch(self, function):
        if isinstance(function, Reader):
            return function.letters == self._letters
        if not isinstance(function, Sum) or function.letters != self._letters or function.prime != self._prime:
            return False
        return (function.degree or 0) <= MAX_DEPTH

    def _step(self, step):
        now = self.history.now
        if size_after(now.text_so_far.many, step) >= MAX_SIZE:
            raise TooMany(MAX_SIZE)
        after = now.stepped(self._letters, step)
        for name in now.kept:
            if after.number_of(name) != now.number_of(name):
                raise InvalidOperation("the number of a held name would change")
        self._go_on(after)

    def _go_on(self, scene):
        self.history = self.history.with_next(scene)

    def _turn_back(self, many, most, by):
        if not is_integer(many) or many < 0:
            raise InvalidNumber(many)
        if many > most:
            raise NothingToUndo(many)
        self.history = self.history.moved(by * many)
