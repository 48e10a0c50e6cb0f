"""Lines that are led from one block to another one, round all blocks."""

from wheresay.answers import Led, Walled
from wheresay.blocks import BARRED, FREE, HEADINGS, SIDES, Field, can_be_led
from wheresay.errors import BadBlocks


class Search:
    """All spots that ways from the one block reach: by rising bends, and of as many by rising steps."""

    def __init__(self, field):
        self.field = field
        # What is at each spot that isn't reached yet.
        self.waiting = field.marks * len(HEADINGS)
        # Pairs of a height and the spots that have it; and of a height and those of them in the other block.
        self.reached = []
        self.ends = []
        # For each number of bends, and within for each number of steps: the spots from which ways go on.
        self.rounds = []
        layers = self.go_on([field.begin_spots()], [])
        while layers:
            layers = self.go_on([[]], layers)

    def go_on(self, layers, fewer):
        """Reach what is straight ahead of layers, and by a bend more from those with one fewer; tell the layers."""
        leaps, sides, size = self.field.leaps, self.field.sides, self.field.size
        while layers[-1] or len(layers) <= len(fewer):
            steps = len(layers)
            behind = fewer[steps - 1] if steps <= len(fewer) else []
            ahead = [spot + side for spot in behind for side in sides[spot // size]]
            ahead.extend([spot + leaps[spot // size] for spot in layers[-1]])
            layers.append(self.reach(ahead, (len(self.rounds), steps)))
        while layers and not layers[-1]:
            layers.pop()
        self.rounds.append(layers)
        return layers

    def reach(self, spots, height):
        """Give this height to those of the spots that have none yet; tell those of them from which ways go on."""
        waiting = self.waiting
        reached = []
        free = []
        ends = []
        for spot in spots:
            mark = waiting[spot]
            if mark != BARRED:
                waiting[spot] = BARRED
                reached.append(spot)
                if mark == FREE:
                    free.append(spot)
                else:
                    ends.append(spot)
        self.reached.append((height, reached))
        if ends:
            self.ends.append((height, ends))
        return free

    def all_points(self):
        """Tell all points that are reached, rising."""
        cells = sorted({spot % self.field.size for height, spots in self.reached for spot in spots})
        return [self.field.point_of(cell) for cell in cells]

    def best_way(self):
        """Tell the points of a best way; there must be one."""
        (bends, steps), ends = self.ends[0]
        triple, spot = min([(self.field.triple_of(end), end) for end in ends])
        way = [spot]
        while steps > 0:
            steps -= 1
            behind = self.bent_from(spot, bends, steps)
            if behind is None:
                spot -= self.field.leaps[spot // self.field.size]
            else:
                spot = behind
                bends -= 1
            way.append(spot)
        return [self.field.point_of(spot % self.field.size) for spot in reversed(way)]

    def bent_from(self, spot, bends, steps):
        """Tell the spot with a bend fewer and so many steps from which this one was reached, or None if straight."""
        if bends == 0 or steps >= len(self.rounds[bends - 1]):
            return None
        size = self.field.size
        turn = spot // size
        straight = spot - self.field.leaps[turn]
        bent = [straight + (side - turn) * size for side in SIDES[turn]]
        # If there are two, the first one reached it.
        for behind in self.rounds[bends - 1][steps]:
            if behind in bent:
                return behind
        return None


def led(blocks, one, other):
    """Tell a best way from the one block to the other one, or points that show that there is none."""
    if not can_be_led(blocks, one, other):
        raise BadBlocks("these are no blocks and no two unlike names of them")
    field = Field(blocks, one, other)
    search = Search(field)
    if not search.ends:
        return Walled(search.all_points())
    return Led(search.best_way(), field.by_triples(search.reached))
