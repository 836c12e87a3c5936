"""A desk that keeps lists and loops under names, and does commands."""

from spanloops.commands import CHANGES, asked_by, changed_by, read_command, things_of
from spanloops.errors import BadCommand, NoName
from spanloops.loops import Loop
from spanloops.texts import rule_lines, write_items


def lines_of(name, thing):
    """The commands that keep this under the name on a new desk."""
    if not isinstance(thing, Loop):
        return [f"list {name} {write_items(thing)}"]
    return [f"loop {name} {thing.order}"] + [f"rule {name} {line}" for line in rule_lines(thing)]


class Desk:
    """What is kept under names, and each command that changed it with what was kept before it."""

    def __init__(self):
        self.shelf = {}
        self.past = []

    def do(self, command):
        """Does a command and returns its answer."""
        word, form, told = read_command(command)
        things = things_of(self.shelf, form, told)
        if word == "undo":
            return self.undone(command)
        if word == "names":
            return " ".join(sorted(list(self.shelf))) or "none"
        if word not in CHANGES:
            return asked_by(word, things)
        answer, shelf = changed_by(word, self.shelf, told)
        self.past.append((command, self.shelf))
        self.shelf = shelf
        return answer

    def undone(self, command):
        """Takes back the last command that changed what is kept, and returns that one."""
        if not self.past:
            raise BadCommand(command)
        answer, self.shelf = self.past.pop()
        return answer

    def run(self, commands):
        """Does all commands of a list or, if one raises an error, none; returns their answers."""
        # A shelf is never changed, so another desk may begin with this one.
        trial = Desk()
        trial.shelf = self.shelf
        trial.past = list(self.past)
        answers = [trial.do(command) for command in commands]
        self.shelf = trial.shelf
        self.past = trial.past
        return answers

    def lines(self):
        """Yields commands that keep the same on a new desk."""
        for name in sorted(list(self.shelf)):
            for line in lines_of(name, self.shelf[name]):
                yield line

    def kept(self, name):
        """What is kept under the name: a list of items or a loop."""
        if name not in self:
            raise NoName(name)
        thing = self.shelf[name]
        return thing if isinstance(thing, Loop) else list(thing)

    def __len__(self):
        return len(self.shelf)

    def __contains__(self, x):
        return isinstance(x, str) and x in self.shelf
