"""What shows that a way is the best one, and what shows that there is none."""

from wheresay.blocks import BARRED, FREE, HEADINGS, heading_of, is_triple
from wheresay.kinds import is_pair

FIRST_HEIGHT = (0, 1)
# Below each height, so that a step to what is barred asks for nothing.
NO_HEIGHT = ()


def are_points(value):
    """Tell whether a value is a list of points."""
    return isinstance(value, list) and all([is_pair(point) for point in value])


def way_height(field, points):
    """Tell the bends and steps of a way from the one block to the other one, or None if it is no way."""
    if not are_points(points) or len(points) < 2:
        return None
    if not field.is_begin(points[0]) or not field.is_end(points[-1]):
        return None
    if not all([field.is_free(point) for point in points[1:-1]]):
        return None
    headings = [heading_of(point, ahead) for point, ahead in zip(points, points[1:])]
    if "" in headings:
        return None
    bends = len([1 for heading, ahead in zip(headings, headings[1:]) if heading != ahead])
    return bends, len(headings)


def counting(field, heights):
    """Tell the heights that count, by spots: those of free points, and those of points in the other block."""
    marks = field.marks * len(HEADINGS)
    free = {}
    ends = {}
    for triple, height in heights.items():
        if is_triple(triple):
            spot = field.spot_of(triple)
            if marks[spot] == FREE:
                free[spot] = height
            elif marks[spot] != BARRED:
                ends[spot] = height
    return free, ends


def by_spots(field, free, ends):
    """Tell what is told of each spot; of one that isn't barred, and of which nothing is told, what is too high."""
    most = max([bends for bends, steps in free.values()], default=0)
    too_high = (max(most, 0) + 2, 0)
    told = [NO_HEIGHT if mark == BARRED else too_high for mark in field.marks] * len(HEADINGS)
    for spot, height in free.items():
        told[spot] = height
    for spot, height in ends.items():
        told[spot] = height
    return told


def are_first_low(field, told):
    """Tell whether the heights at the first steps are no more than the first height."""
    leaps, size = field.leaps, field.size
    return all([told[spot + leaps[spot // size]] <= FIRST_HEIGHT for spot in field.begin_spots()])


def are_low_ahead(field, told, free):
    """Tell whether the heights at the steps from each free point are no more than its own one lets them be."""
    leaps, sides, size = field.leaps, field.sides, field.size
    for spot, (bends, steps) in free.items():
        turn = spot // size
        if told[spot + leaps[turn]] > (bends, steps + 1):
            return False
        bent = (bends + 1, steps + 1)
        one, other = sides[turn]
        if told[spot + one] > bent or told[spot + other] > bent:
            return False
    return True


def heights_show(field, heights, best):
    """Tell whether heights show that no way is better than one of the best bends and steps."""
    if not isinstance(heights, dict):
        return False
    free, ends = counting(field, heights)
    if not all([is_pair(height) for height in list(free.values()) + list(ends.values())]):
        return False
    if min(ends.values(), default=None) != best:
        return False
    told = by_spots(field, free, ends)
    return are_first_low(field, told) and are_low_ahead(field, told, free)


def points_show(field, points):
    """Tell whether points show that there is no way."""
    if not are_points(points) or not all([point < ahead for point, ahead in zip(points, points[1:])]):
        return False
    cells = [field.cell_of(point) for point in points]
    marks = list(field.marks)
    for cell in cells:
        if marks[cell] != FREE:
            return False
        marks[cell] = BARRED
    # What isn't barred now is another free point, or in the other block.
    cells.extend(field.begin_cells())
    return all([marks[cell + leap] == BARRED for cell in cells for leap in field.leaps])
