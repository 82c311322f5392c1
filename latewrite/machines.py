"""Machines: they go through a program move by move, one class for each slack."""

from latewrite.deeds import cup_of, guard_of, holds, is_read, place_of
from latewrite.errors import NoMove
from latewrite.programs import deed_at, number_at, numbered, places
from latewrite.tales import last_of, outcome_with


# Slack 0: all is at once, so rows stay empty.
class Machine:
    def __init__(self, program):
        self.program = [list(hand) for hand in program]
        self.steps = [numbered(hand) for hand in program]
        self.named = places(program)
        # Of each hand, how many deeds are done or passed over.
        self.reached = [0 for hand in program]
        self.filled = [{} for hand in program]
        # A bar stands in a row as None.
        self.rows = [[] for hand in program]
        self.lines = dict([(place, []) for place in self.named])
        self.sources = {}
        for h in range(len(program)):
            self.pass_over(h)

    def moves(self):
        found = []
        for h in range(len(self.program)):
            if self.can_do(h):
                found.append(("do", h))
            found.extend([("settle", h, place) for place in self.settling(h)])
        return found

    def do(self, move):
        if move not in self.moves():
            raise NoMove("no move that can be done")
        if move[0] == "do":
            self.do_due(move[1])
        else:
            self.settle(move[1], move[2])

    def due(self, h):
        at = self.reached[h]
        return self.steps[h][at] if at < len(self.steps[h]) else None

    def row(self, h):
        return [point for point in self.rows[h] if point is not None]

    def line(self, place):
        return list(self.lines.get(place, []))

    def told(self, h, place):
        own = last_of(self.waiting(h, place))
        return own if own is not None else last_of(self.line(place))

    def cup(self, h, name):
        return self.filled[h].get(name, 0)

    def tale(self):
        froms = [(reader, self.sources[reader]) for reader in sorted(self.sources)]
        return (froms, [(place, self.line(place)) for place in self.named])

    def outcome(self):
        return outcome_with(self.program, self.filled, self.lines)

    def ended(self):
        return self.moves() == []

    def twin(self):
        return self.stand_alike(Machine([]))

    # What never changes behind the making is shared by both, all else is copied.
    def stand_alike(self, other):
        other.program = self.program
        other.steps = self.steps
        other.named = self.named
        other.reached = list(self.reached)
        other.filled = [dict(has) for has in self.filled]
        other.rows = [list(row) for row in self.rows]
        other.lines = dict([(place, list(line)) for place, line in self.lines.items()])
        other.sources = dict(self.sources)
        return other

    # At once behind each deed: what the guards ask is settled by then, for only the hand itself fills its cups.
    def pass_over(self, h):
        while self.due(h) is not None and not holds(guard_of(self.due(h)[1]), self.filled[h]):
            self.reached[h] += 1

    def can_do(self, h):
        if self.due(h) is None:
            return False
        return self.rows[h] == [] or self.due(h)[1][0] not in ("swap", "fence")

    def do_due(self, h):
        deed = self.due(h)[1]
        point = (h, self.due(h)[0])
        if is_read(deed):
            self.read_in(point, deed)
        if deed[0] == "put":
            self.put_out(point, place_of(deed))
        elif deed[0] == "swap":
            self.lines[place_of(deed)].append(point)
        elif deed[0] == "bar":
            self.put_bar(h)
        self.reached[h] += 1
        self.pass_over(h)

    # For a swap, too: its hand's row is empty then, so what is told is the line's last one.
    def read_in(self, point, deed):
        source = self.told(point[0], place_of(deed))
        self.sources[point] = source
        self.filled[point[0]][cup_of(deed)] = number_at(self.program, source)

    def waiting(self, h, place):
        return [point for point in self.row(h) if place_of(deed_at(self.program, point)) == place]

    def settling(self, h):
        return []

    def put_out(self, point, place):
        self.lines[place].append(point)

    def put_bar(self, h):
        pass

    def settle(self, h, place):
        point = self.waiting(h, place)[0]
        row = self.rows[h]
        row.remove(point)
        self.lines[place].append(point)
        while row != [] and row[0] is None:
            row.pop(0)


# Slack 1: what is put waits in the row and comes out in order.
class Late(Machine):
    def twin(self):
        return self.stand_alike(Late([]))

    def settling(self, h):
        return [place_of(deed_at(self.program, point)) for point in self.row(h)[:1]]

    def put_out(self, point, place):
        self.rows[point[0]].append(point)


# Slack 2: what is put waits in the row and comes out in order by place alone, but never past a bar.
class Loose(Late):
    def twin(self):
        return self.stand_alike(Loose([]))

    def settling(self, h):
        row = self.rows[h]
        free = row[:row.index(None)] if None in row else row
        return sorted(set([place_of(deed_at(self.program, point)) for point in free]))

    def put_bar(self, h):
        # Into an empty row it would come only to go out of it at once.
        if self.rows[h] != []:
            self.rows[h].append(None)


def machine(program, slack=2):
    if slack == 0:
        return Machine(program)
    return Late(program) if slack == 1 else Loose(program)
