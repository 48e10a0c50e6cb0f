"""What shows that a way is the best one, and what shows that there is none."""

from wheresay.blocks import heading_of, is_triple
from wheresay.kinds import is_pair

FIRST_HEIGHT = (0, 1)


def are_points(value):
    """Tell whether a value is a list of points."""
    return isinstance(value, list) and all([is_pair(point) for point in value])


def height_after(height, triple, ahead):
    """Tell the height of a triple, reached by a step from one of this height."""
    bend = 0 if triple[2] == ahead[2] else 1
    return height[0] + bend, height[1] + 1


def way_height(field, points):
    """Tell the bends and steps of a way from the one block to the other one, or None if it is no way."""
    if not are_points(points) or len(points) < 2:
        return None
    if not field.is_begin(points[0]) or not field.is_end(points[-1]):
        return None
    if not all([field.is_free(point) for point in points[1:-1]]):
        return None
    headings = [heading_of(point, ahead) for point, ahead in zip(points, points[1:])]
    if "" in headings:
        return None
    bends = len([1 for heading, ahead in zip(headings, headings[1:]) if heading != ahead])
    return bends, len(headings)


def counting(field, heights):
    """Tell those of the heights that count: of points that are free or in the other block."""
    told = {}
    for triple, height in heights.items():
        if is_triple(triple):
            point = (triple[0], triple[1])
            if field.is_free(point) or field.is_end(point):
                told[triple] = height
    return told


def is_low(told, triple, most):
    """Tell whether a triple has a height, a pair that is no more than the most one."""
    height = told.get(triple)
    return is_pair(height) and height <= most


def are_low_ahead(field, told, triple):
    """Tell whether the heights at the steps from a triple are no more than its own one lets them be."""
    if not field.is_free((triple[0], triple[1])):
        return True
    height = told[triple]
    return all([is_low(told, ahead, height_after(height, triple, ahead)) for ahead in field.next_steps(triple)])


def heights_show(field, heights, best):
    """Tell whether heights show that no way is better than one of the best bends and steps."""
    if not isinstance(heights, dict):
        return False
    told = counting(field, heights)
    if not all([is_pair(height) for height in told.values()]):
        return False
    if not all([is_low(told, triple, FIRST_HEIGHT) for triple in field.first_steps()]):
        return False
    if not all([are_low_ahead(field, told, triple) for triple in told]):
        return False
    ends = [height for triple, height in told.items() if field.is_end((triple[0], triple[1]))]
    return min(ends, default=None) == best


def points_show(field, points):
    """Tell whether points show that there is no way."""
    if not are_points(points) or not all([point < ahead for point, ahead in zip(points, points[1:])]):
        return False
    if not all([field.is_free(point) for point in points]):
        return False
    within = {point: True for point in points}
    steps = field.first_steps()
    for point in points:
        steps.extend(field.steps_from(point))
    # A point in the other block is none of these, so a step that leads there fails, too.
    return all([(across, down) in within for across, down, heading in steps])
