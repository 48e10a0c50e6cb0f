"""Blocks: boxes on points, the points that are free between them, and the steps there."""

from wheresay.kinds import is_name, is_number, is_whole

FEWEST_BLOCKS = 2
MOST_BLOCKS = 6
FARTHEST = 30
LARGEST = 20

# How far each heading leads across and down.
HEADINGS = {"right": (1, 0), "down": (0, 1), "left": (-1, 0), "up": (0, -1)}
BACK = {"right": "left", "down": "up", "left": "right", "up": "down"}

FREE = "free"
IN_ONE = "one"
IN_OTHER = "other"


def is_block(value):
    """Tell whether a value is a tuple of the four parts of a block."""
    if not isinstance(value, tuple) or len(value) != 4:
        return False
    left, top, wide, high = value
    begins = is_number(left, -FARTHEST, FARTHEST) and is_number(top, -FARTHEST, FARTHEST)
    return begins and is_number(wide, 1, LARGEST) and is_number(high, 1, LARGEST)


def are_apart(one, other):
    """Tell whether two blocks have no point together."""
    if one[0] + one[2] < other[0] or other[0] + other[2] < one[0]:
        return True
    return one[1] + one[3] < other[1] or other[1] + other[3] < one[1]


def are_blocks(value):
    """Tell whether a value is a dict of 2 to 6 names, each with a block, no two with a point together."""
    if not isinstance(value, dict) or not FEWEST_BLOCKS <= len(value) <= MOST_BLOCKS:
        return False
    if not all([is_name(name) and is_block(block) for name, block in value.items()]):
        return False
    blocks = list(value.values())
    return all([are_apart(one, other) for at, one in enumerate(blocks) for other in blocks[:at]])


def can_be_led(blocks, one, other):
    """Tell whether these are blocks and two unlike names of them."""
    if not are_blocks(blocks) or not is_name(one) or not is_name(other):
        return False
    return one in blocks and other in blocks and one != other


def points_of(block):
    """Tell all points of a block."""
    left, top, wide, high = block
    return [(left + across, top + down) for across in range(wide + 1) for down in range(high + 1)]


def frame_of(blocks):
    """Tell the block that is the frame of blocks: 1 more than they reach at each side."""
    left = min([block[0] for block in blocks]) - 1
    top = min([block[1] for block in blocks]) - 1
    right = max([block[0] + block[2] for block in blocks]) + 1
    bottom = max([block[1] + block[3] for block in blocks]) + 1
    return left, top, right - left, bottom - top


def is_triple(value):
    """Tell whether a value is a triple of a point across, down, and a heading."""
    if not isinstance(value, tuple) or len(value) != 3:
        return False
    across, down, heading = value
    return is_whole(across) and is_whole(down) and isinstance(heading, str) and heading in HEADINGS


def heading_of(point, ahead):
    """Tell the heading of the step from a point to another one, or nothing if that is no step."""
    for heading, (across, down) in HEADINGS.items():
        if (point[0] + across, point[1] + down) == ahead:
            return heading
    return ""


class Field:
    """Which points are free, in the one block and in the other one; all others are barred."""

    def __init__(self, blocks, one, other):
        boxes = list(blocks.values())
        self.marks = {point: FREE for point in points_of(frame_of(boxes))}
        for block in boxes:
            for point in points_of(block):
                del self.marks[point]
        self.begin = points_of(blocks[one])
        for point in self.begin:
            self.marks[point] = IN_ONE
        for point in points_of(blocks[other]):
            self.marks[point] = IN_OTHER

    def is_free(self, point):
        """Tell whether a point is free."""
        return self.marks.get(point) == FREE

    def is_begin(self, point):
        """Tell whether a point is in the one block."""
        return self.marks.get(point) == IN_ONE

    def is_end(self, point):
        """Tell whether a point is in the other block."""
        return self.marks.get(point) == IN_OTHER

    def steps_from(self, point):
        """Tell the triples to which steps lead from a point, if free or in the other block."""
        told = []
        for heading, (across, down) in HEADINGS.items():
            ahead = (point[0] + across, point[1] + down)
            if self.is_free(ahead) or self.is_end(ahead):
                told.append((ahead[0], ahead[1], heading))
        return told

    def first_steps(self):
        """Tell the triples to which steps lead from points in the one block."""
        return [triple for point in self.begin for triple in self.steps_from(point)]

    def next_steps(self, triple):
        """Tell the triples to which steps lead from one at a free point, but not straight back."""
        across, down, heading = triple
        return [ahead for ahead in self.steps_from((across, down)) if ahead[2] != BACK[heading]]
