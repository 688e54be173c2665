"""The refusals, each of its own class under CallError."""


class CallError(ValueError):
    """What all refusals stand under."""


class NoTable(CallError):
    """A pair that is none of a table's."""


class TooLong(CallError):
    """A way with more moves than asked for."""


class NoName(CallError):
    """A name or a row that the program lacks."""


class NoChart(CallError):
    """A chart that isn't let by; function and edge are -1 where none of them is the wrong one."""

    def __init__(self, function, edge):
        CallError.__init__(self, f"no chart: function {function}, edge {edge}")
        self.function = function
        self.edge = edge


class NoWay(CallError):
    """A way with a move, numbered from 1, that can't be made; 0 stands for its first fact."""

    def __init__(self, at):
        CallError.__init__(self, f"no way: move {at}")
        self.at = at


class NoPaper(CallError):
    """A paper with a row that doesn't claim what it has to."""

    def __init__(self, row):
        CallError.__init__(self, f"no paper: row {row}")
        self.row = row


class NoText(CallError):
    """A text that is no program's; its rows are numbered from 1."""

    def __init__(self, row):
        CallError.__init__(self, f"no text: row {row}")
        self.row = row
