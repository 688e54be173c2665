"""Runs of programs, with what their variables hold and which of them are dyed."""


def run(program, values, dyed=0, most=400):
    """(states, end): each place come to, with its steps and facts, and how the run ended."""
    runner = Runner(program)
    runner.enter(0, values, [dyed >> v & 1 for v in range(program[0][1])])
    end = None
    while end is None:
        end = ("spent",) if runner.steps >= most else runner.do_row()
    return (runner.states, end)


class Frame:
    """A function that was entered and not left yet: its number, the row due, and its variables' values and dyes."""

    def __init__(self, function, held, dyes):
        self.function = function
        self.place = 0
        self.held = held
        # 1 for each variable that is dyed, 0 for each that isn't.
        self.dyes = dyes

    def put_value(self, x, value, dye):
        self.held[x] = value
        self.dyes[x] = dye


class Runner:
    """A run as far as it has come; the last of its frames is the one that is going on."""

    def __init__(self, program):
        self.program = program
        self.frames = []
        self.steps = 0
        self.states = []

    def come_to(self, place):
        """Go on at this place of the last frame's function."""
        frame = self.frames[-1]
        frame.place = place
        mask = 1
        for v, dye in enumerate(frame.dyes):
            mask |= dye << (1 + v)
        self.states.append((self.steps, frame.function, place, mask))

    def enter(self, g, held, dyes):
        """Open function g, with these values and dyes of its given variables."""
        rest = [0] * (len(self.program[g][2]) - len(held))
        self.frames.append(Frame(g, held + rest, dyes + rest))
        self.come_to(0)

    def do_row(self):
        """Do the row that is due; how the run ended, or None where it goes on."""
        frame = self.frames[-1]
        row = self.program[frame.function][3][frame.place]
        self.steps += 1
        if row[0] == "return":
            return self.give_back(row[1])
        if row[0] == "call":
            # The caller stays at the call's own row till the value is given back.
            self.enter(row[2], [frame.held[v] for v in row[3]], [frame.dyes[v] for v in row[3]])
        else:
            change(frame, row)
            self.come_to(place_behind(frame, row))
        return None

    def give_back(self, x):
        """Leave the last frame with its variable x; how the run ended, or None where a call was open."""
        left = self.frames.pop()
        function = self.program[left.function]
        back_fact = 1 + len(function[2])
        self.states.append((self.steps, left.function, len(function[3]), 1 | left.dyes[x] << back_fact))
        if len(self.frames) == 0:
            return ("done", left.held[x])
        caller = self.frames[-1]
        call = self.program[caller.function][3][caller.place]
        caller.put_value(call[1], left.held[x], left.dyes[x])
        self.come_to(caller.place + 1)
        return None


def change(frame, row):
    """What a row, but a call or a return, does to the variables of its function."""
    if row[0] == "number":
        frame.put_value(row[1], row[2], 0)
    elif row[0] == "copy":
        frame.put_value(row[1], frame.held[row[2]], frame.dyes[row[2]])
    elif row[0] == "does":
        value = reckoned(row[2], frame.held[row[3]], frame.held[row[4]])
        frame.put_value(row[1], value, frame.dyes[row[3]] | frame.dyes[row[4]])
    elif row[0] == "dye" or row[0] == "wash":
        frame.dyes[row[1]] = 1 if row[0] == "dye" else 0


def reckoned(op, y, z):
    if op == "+":
        value = y + z
    elif op == "-":
        value = y - z
    else:
        value = y * z
    return value % 10 ** 18


def place_behind(frame, row):
    """Where a row, but a call or a return, leads from its frame's place."""
    if row[0] == "to":
        return row[1]
    if row[0] == "if" and frame.held[row[1]] != 0:
        return row[2]
    return frame.place + 1
