"""A shell over a desk, which does the commands of lines."""

from whatcounts.desk.desk import Desk
from whatcounts.errors import InvalidName, InvalidNumber, InvalidOperation, InvalidPattern, InvalidText, NothingToUndo
from whatcounts.errors import TooMany, UnknownName
from whatcounts.text.commands import done_by, parts_told

WHAT = "what"


class Shell:
    """A desk, and the answers to lines that tell what to do at it."""

    def __init__(self, letters, *, prime=None):
        self._desk = Desk(letters, prime=prime)

    def desk(self):
        """A twin of the desk."""
        return self._desk.twin()

    def answer(self, line):
        """Do the command of a line, and return its answer."""
        if not isinstance(line, str) or "\n" in line:
            return WHAT
        words = line.split(" ")
        parts = parts_told(self._desk.letters, words)
        return WHAT if parts is None else self._done(words, parts)

    def __call__(self, line):
        return self.answer(line)

    def _done(self, words, parts):
        try:
            return done_by(self._desk, words, parts)
        except UnknownName as unknown:
            return f"unknown {unknown.name}"
        except InvalidNumber as wrong:
            return f"number {wrong.value}"
        except TooMany as limited:
            return f"many {limited.limit}"
        except NothingToUndo as ended:
            return f"undo {ended.many}"
        except InvalidName:
            return "name"
        except InvalidText:
            return "text"
        except InvalidPattern:
            return "pattern"
        except InvalidOperation:
            return "operation"
