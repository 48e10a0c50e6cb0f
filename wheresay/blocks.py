"""Blocks: boxes on points, the points that are free between them, and the steps there."""

from wheresay.kinds import is_name, is_number

FEWEST_BLOCKS = 2
MOST_BLOCKS = 6
FARTHEST = 30
LARGEST = 20

HEADINGS = ("right", "down", "left", "up")
# The number of each heading, its turn; and to which turns a bend can lead from each: neither on nor straight back.
TURNS = {"right": 0, "down": 1, "left": 2, "up": 3}
SIDES = ((1, 3), (0, 2), (1, 3), (0, 2))
STEPS = {(1, 0): "right", (0, 1): "down", (-1, 0): "left", (0, -1): "up"}

BARRED = 0
FREE = 1
IN_OTHER = 2


def is_block(value):
    """Tell whether a value is a tuple of the four parts of a block."""
    if not isinstance(value, tuple) or len(value) != 4:
        return False
    left, top, wide, high = value
    begins = is_number(left, -FARTHEST, FARTHEST) and is_number(top, -FARTHEST, FARTHEST)
    return begins and is_number(wide, 1, LARGEST) and is_number(high, 1, LARGEST)


def are_apart(one, other):
    """Tell whether two blocks have no point together."""
    if one[0] + one[2] < other[0] or other[0] + other[2] < one[0]:
        return True
    return one[1] + one[3] < other[1] or other[1] + other[3] < one[1]


def are_blocks(value):
    """Tell whether a value is a dict of 2 to 6 names, each with a block, no two with a point together."""
    if not isinstance(value, dict) or not FEWEST_BLOCKS <= len(value) <= MOST_BLOCKS:
        return False
    if not all([is_name(name) and is_block(block) for name, block in value.items()]):
        return False
    blocks = list(value.values())
    return all([are_apart(one, other) for at, one in enumerate(blocks) for other in blocks[:at]])


def can_be_led(blocks, one, other):
    """Tell whether these are blocks and two unlike names of them."""
    if not are_blocks(blocks) or not is_name(one) or not is_name(other):
        return False
    return one in blocks and other in blocks and one != other


def holds(block, point):
    """Tell whether a point is in a block."""
    left, top, wide, high = block
    return left <= point[0] <= left + wide and top <= point[1] <= top + high


def frame_of(blocks):
    """Tell the block that is the frame of blocks: 1 more than they reach at each side."""
    left = min([block[0] for block in blocks]) - 1
    top = min([block[1] for block in blocks]) - 1
    right = max([block[0] + block[2] for block in blocks]) + 1
    bottom = max([block[1] + block[3] for block in blocks]) + 1
    return left, top, right - left, bottom - top


def is_triple(value):
    """Tell whether a value is a triple of a point across, down, and a heading."""
    if not isinstance(value, tuple) or len(value) != 3:
        return False
    across, down, heading = value
    # Spelled out, without further calls, as this is asked of each height of a field.
    if isinstance(across, bool) or isinstance(down, bool):
        return False
    return isinstance(across, int) and isinstance(down, int) and isinstance(heading, str) and heading in TURNS


def heading_of(point, ahead):
    """Tell the heading of the step from a point to another one, or nothing if that is no step."""
    return STEPS.get((ahead[0] - point[0], ahead[1] - point[1]), "")


class Field:
    """Which points are free, and which are in the other block; all others are barred.

    Points and triples are told by numbers here, as most of the time goes by in looking them up. A cell is the
    number of a point, column by column, with a rim of barred cells round the frame, so that each step from within
    leads to a cell. A spot is the number of a triple: the cells with the first heading, then those with the next.
    """

    def __init__(self, blocks, one, other):
        left, top, wide, high = frame_of(list(blocks.values()))
        self.left = left - 1
        self.top = top - 1
        self.across = wide + 3
        self.down = high + 3
        self.size = self.across * self.down
        self.begin = blocks[one]
        self.marks = [BARRED] * self.size
        self.fill((left, top, wide, high), FREE)
        for block in blocks.values():
            self.fill(block, BARRED)
        self.fill(blocks[other], IN_OTHER)
        # How far it is from the spots of each turn to the one straight ahead, and to those ahead by a bend.
        self.leaps = (self.down, 1, -self.down, -1)
        self.sides = [self.sides_of(turn) for turn in range(len(HEADINGS))]

    def sides_of(self, turn):
        """Tell how far it is from the spots of a turn to those that are ahead by a bend."""
        return [(side - turn) * self.size + self.leaps[side] for side in SIDES[turn]]

    def fill(self, block, mark):
        """Mark all points of a block."""
        left, top, wide, high = block
        for across in range(left, left + wide + 1):
            cell = self.cell_of((across, top))
            self.marks[cell:cell + high + 1] = [mark] * (high + 1)

    def cell_of(self, point):
        """Tell the cell of a point, for each one beyond the rim a cell of the rim."""
        across = point[0] - self.left
        down = point[1] - self.top
        if 0 <= across < self.across and 0 <= down < self.down:
            return across * self.down + down
        return 0

    def spot_of(self, triple):
        """Tell the spot of a triple, for each one beyond the rim a spot of the rim."""
        return TURNS[triple[2]] * self.size + self.cell_of(triple)

    def is_free(self, point):
        """Tell whether a point is free."""
        return self.marks[self.cell_of(point)] == FREE

    def is_begin(self, point):
        """Tell whether a point is in the one block."""
        return holds(self.begin, point)

    def is_end(self, point):
        """Tell whether a point is in the other block."""
        return self.marks[self.cell_of(point)] == IN_OTHER

    def begin_cells(self):
        """Tell the cells of the one block."""
        left, top, wide, high = self.begin
        tops = [self.cell_of((across, top)) for across in range(left, left + wide + 1)]
        return [cell + down for cell in tops for down in range(high + 1)]

    def begin_spots(self):
        """Tell the spots of the one block, from which all ways begin."""
        turns = [turn * self.size for turn in range(len(HEADINGS))]
        return [cell + turn for cell in self.begin_cells() for turn in turns]

    def point_of(self, cell):
        """Tell the point of a cell."""
        return self.left + cell // self.down, self.top + cell % self.down

    def triple_of(self, spot):
        """Tell the triple of a spot."""
        across, down = self.point_of(spot % self.size)
        return across, down, HEADINGS[spot // self.size]

    def by_triples(self, reached):
        """Tell a dict of the triples of spots, from pairs of what is told of them and these spots."""
        # Told once of each column of each heading, as most of the time goes by here.
        headings = [heading for heading in HEADINGS for column in range(self.across)]
        acrosses = [self.left + column for heading in HEADINGS for column in range(self.across)]
        top, many = self.top, self.down
        told = {}
        for height, spots in reached:
            for spot in spots:
                column = spot // many
                told[acrosses[column], top + spot % many, headings[column]] = height
        return told
