"""Lines that are led from one block to another one, round all blocks."""

from wheresay.answers import Led, Walled
from wheresay.blocks import HEADINGS, Field, can_be_led
from wheresay.errors import BadBlocks


def wait(queue, steps, triple, behind):
    """Put a triple into a queue, under the number of its steps, with the triple that led there."""
    queue.setdefault(steps, []).append((triple, behind))


def spread(field):
    """Tell the least height of each triple that can be reached, and the triple that leads to it."""
    heights = {}
    behinds = {}
    later = {}
    for triple in field.first_steps():
        wait(later, 1, triple, None)
    bends = 0
    while later:
        # All of as many bends, by rising steps; a bend puts off to the next round.
        now = later
        later = {}
        while now:
            steps = min(now)
            waiting = now.pop(steps)
            for triple, behind in waiting:
                if triple in heights:
                    continue
                heights[triple] = (bends, steps)
                behinds[triple] = behind
                for ahead in steps_on(field, triple):
                    wait(now if ahead[2] == triple[2] else later, steps + 1, ahead, triple)
        bends += 1
    return heights, behinds


def steps_on(field, triple):
    """Tell the triples to which a way goes on from this one; it ends in the other block."""
    return [] if field.is_end((triple[0], triple[1])) else field.next_steps(triple)


def way_to(behinds, triple):
    """Tell the points of the way that leads to a triple."""
    points = []
    while triple is not None:
        across, down, heading = triple
        points.append((across, down))
        triple = behinds[triple]
    # The first triple was reached by a step from the one block.
    points.append((across - HEADINGS[heading][0], down - HEADINGS[heading][1]))
    return points[::-1]


def led(blocks, one, other):
    """Tell a best way from the one block to the other one, or points that show that there is none."""
    if not can_be_led(blocks, one, other):
        raise BadBlocks("these are no blocks and no two unlike names of them")
    field = Field(blocks, one, other)
    heights, behinds = spread(field)
    ends = [(height, triple) for triple, height in heights.items() if field.is_end((triple[0], triple[1]))]
    if not ends:
        return Walled(sorted({(across, down) for across, down, heading in heights}))
    height, triple = min(ends)
    return Led(way_to(behinds, triple), heights)
