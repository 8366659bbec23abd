"""All turns that are made of some."""

from whatcounts.base.checks import check_most
from whatcounts.group.moves import joint_of, still_turn


class TurnSpan:
    """All turns that are made of those that are put to it, one behind the other, at most so many."""

    def __init__(self, points, most):
        self.most = most
        self.start = still_turn(points)
        self.kept = []
        self.found = {self.start: True}

    def put(self, turn):
        """Put a turn to the span, unless it is there."""
        if turn in self.found:
            return
        self.kept.append(turn)
        below = list(self.found)
        leaders = [self.start]
        at = 0
        # the turns that were there, each with one more turn behind it, are either all there already or none is
        while at < len(leaders):
            for other in list(self.kept):
                leader = joint_of(leaders[at], other)
                if leader not in self.found:
                    leaders.append(leader)
                    self._put_all(below, leader)
            at = at + 1

    def turns(self):
        """The ascending tuple of the turns."""
        return tuple(sorted(self.found))

    def _put_all(self, turns, leader):
        for turn in turns:
            self.found[joint_of(turn, leader)] = True
        check_most(len(self.found), self.most)
