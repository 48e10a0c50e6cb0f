"""What several tests need: values of other kinds, shares, places, and the points of the document once more."""

from fractions import Fraction
from heapq import heapify, heappop, heappush
from itertools import product
from random import Random

from wheresay.sayings import Alike, Amid, At, Beside
from wheresay.sheets import Sheet

PARTS = ("left", "top", "wide", "high")


class Agreeing:
    """Of no kind that is asked for, but equal to whatever it is compared with."""

    def __eq__(self, other):
        return True

    def __hash__(self):
        return hash("left")


def values():
    """One value or more of each kind, made anew, so that no test spoils them for the next one."""
    return [
        True, False, None, "", "a", "left", "right", "across", "3", b"", b"a", b"left",
        0, 1, -1, 3, 1001, 10 ** 5000, [], ["a"], ["left"], [3], (), ("a",), ("left",), (3,),
        {}, {"a": 1}, {"left": 1}, {3: 3}, {"a"}, object(), Agreeing(), len, ValueError, ValueError("a"),
    ]


def others(*kinds):
    """The values of none of these kinds; True and False are no numbers."""
    return [value for value in values() if isinstance(value, bool) or not isinstance(value, kinds)]


def share(value):
    """The share that a number or a Fraction is."""
    value = Fraction(value)
    return (value.numerator, value.denominator)


def box(left, top, wide, high):
    """A tuple of four shares."""
    return (share(left), share(top), share(wide), share(high))


def many_places(names):
    """Places of the boxes with each of some numbers, whole ones and others, in each turn."""
    some = [Fraction(0), Fraction(1), Fraction(-3, 2), Fraction(7, 3)]
    rows = list(product(some, repeat=4))
    for first in range(0, len(rows), 7):
        yield {name: box(*rows[(first + 41 * at) % len(rows)]) for at, name in enumerate(names)}


def edges(places, name):
    """The parts of a box by name, and its right and its bottom."""
    told = {part: Fraction(*one) for part, one in zip(PARTS, places[name])}
    told["right"] = told["left"] + told["wide"]
    told["bottom"] = told["top"] + told["high"]
    return told


def comes_to(adds, places):
    """The parts of a sum, so many times each."""
    parts, number = adds
    return sum((many * edges(places, name)[part] for (name, part), many in parts.items()), Fraction(0))


def shape(saying):
    """What a saying tells of itself, to compare it by."""
    return (saying.__class__.__name__, saying.names(), saying.adds())


# What follows works out the document's points once more, by plain means of its own, to compare with.

REST_RULE = (("wide", 8), ("high", 4), ("left", 0), ("top", 0))


class Numbers:
    """Rows of Fractions, each brought in as it comes: what they settle, and whether they clash."""

    def __init__(self, keys):
        self.keys = list(keys)
        self.rows = []
        self.clash = False

    def left_of(self, parts, number):
        row = [Fraction(parts.get(key, 0)) for key in self.keys] + [Fraction(number)]
        for at, other in self.rows:
            if row[at]:
                row = [one - row[at] * two if two else one for one, two in zip(row, other)]
        return row

    def add(self, parts, number):
        row = self.left_of(parts, number)
        places = [at for at in range(len(self.keys)) if row[at] != 0]
        if not places:
            self.clash = self.clash or row[-1] != 0
            return
        at = places[0]
        row = [one / row[at] if one else one for one in row]
        for where, old in self.rows:
            if old[at]:
                old[:] = [one - old[at] * two if two else one for one, two in zip(old, row)]
        self.rows.append((at, row))

    def value(self, parts):
        """What the parts, so many times each, must come to; None if that is open."""
        row = self.left_of(parts, 0)
        return None if any(row[:-1]) else -row[-1]


def numbers_of(names, sayings):
    told = Numbers((name, part) for name in names for part in PARTS)
    for saying in sayings:
        told.add(*saying.adds())
    return told


def can_be_kept(names, sayings):
    return not numbers_of(names, sayings).clash


def rest_places(names, sayings):
    """The places of point 4, part by part as it tells them."""
    known = numbers_of(names, sayings)
    places = {}
    for name in names:
        parts = {}
        for part, rest in REST_RULE:
            value = known.value({(name, part): 1})
            if value is None:
                value = Fraction(rest)
                known.add({(name, part): 1}, rest)
            parts[part] = value
        places[name] = box(*[parts[part] for part in PARTS])
    return places


def together(sayings, numbers):
    """The sums of the sayings, so many times each: a dict without 0, and a number."""
    parts = {}
    total = 0
    for saying, many in zip(sayings, numbers):
        told, number = saying.adds()
        total += many * number
        for key, times in told.items():
            parts[key] = parts.get(key, 0) + many * times
    return {key: many for key, many in parts.items() if many}, total


def is_least_lot(names, sayings, numbers):
    """Whether numbers show a clash as point 4 tells it."""
    parts, number = together(sayings, numbers)
    if len(numbers) != len(sayings) or parts or number == 0:
        return False
    lot = [at for at, many in enumerate(numbers) if many]
    return all(can_be_kept(names, [sayings[at] for at in lot if at != out]) for out in lot)


HEADINGS = {"right": (1, 0), "down": (0, 1), "left": (-1, 0), "up": (0, -1)}
BACK = {"right": "left", "left": "right", "up": "down", "down": "up"}


class Map:
    """The points of blocks: those in the one, those in the other, and the free ones."""

    def __init__(self, blocks, one, other):
        held = {name: {(x, y) for x in range(left, left + wide + 1) for y in range(top, top + high + 1)}
                for name, (left, top, wide, high) in blocks.items()}
        every = set().union(*held.values())
        across, down = [x for x, y in every], [y for x, y in every]
        frame = {(x, y) for x in range(min(across) - 1, max(across) + 2)
                 for y in range(min(down) - 1, max(down) + 2)}
        self.one, self.other, self.free = held[one], held[other], frame - every

    def steps(self, point):
        """Each heading, and the free point or point in the other to which it leads from a point."""
        for heading, (x, y) in HEADINGS.items():
            ahead = (point[0] + x, point[1] + y)
            if ahead in self.free or ahead in self.other:
                yield heading, ahead

    def firsts(self):
        return [(*ahead, heading) for point in self.one for heading, ahead in self.steps(point)]

    def heights(self, back=False):
        """The least bends and steps of each triple, by ways that never go straight back, or may."""
        told = {}
        waiting = [(0, 1, triple) for triple in self.firsts()]
        heapify(waiting)
        while waiting:
            bends, steps, triple = heappop(waiting)
            if triple in told:
                continue
            told[triple] = (bends, steps)
            if triple[:2] in self.free:
                for heading, ahead in self.steps(triple[:2]):
                    if back or heading != BACK[triple[2]]:
                        heappush(waiting, (bends + (heading != triple[2]), steps + 1, (*ahead, heading)))
        return told

    def found(self):
        """What is found first, with those found longest ago gone on from first: a way, or None, and the heights."""
        heights, behinds = {}, {}
        begins = [(*ahead, heading) for point in sorted(self.one) for heading, ahead in self.steps(point)]
        waiting = [(0, 1, turn, triple, None) for turn, triple in enumerate(begins)]
        turn = len(waiting)
        while waiting:
            bends, steps, _, triple, behind = heappop(waiting)
            if triple in heights:
                continue
            heights[triple] = (bends, steps)
            behinds[triple] = behind
            if triple[:2] in self.free:
                for heading, ahead in self.steps(triple[:2]):
                    if heading != BACK[triple[2]]:
                        bent = bends + (heading != triple[2])
                        heappush(waiting, (bent, steps + 1, turn, (*ahead, heading), triple))
                        turn += 1
        ends = [(height, triple) for triple, height in heights.items() if triple[:2] in self.other]
        return (self.way_back(behinds, min(ends)[1]) if ends else None), heights

    def way_back(self, behinds, triple):
        """The points of the way that led to a triple."""
        points = []
        while triple is not None:
            points.insert(0, triple[:2])
            (x, y), triple = HEADINGS[triple[2]], behinds[triple]
        return [(points[0][0] - x, points[0][1] - y)] + points

    def best(self):
        """The bends and steps of a best way, even of those that go straight back, or None if there is none."""
        ends = [height for triple, height in self.heights(True).items() if triple[:2] in self.other]
        return min(ends, default=None)

    def way(self, points):
        """The bends and steps of a way, or None if it is no way."""
        if len(points) < 2 or points[0] not in self.one or points[-1] not in self.other:
            return None
        if not set(points[1:-1]) <= self.free:
            return None
        turns = {there: heading for heading, there in HEADINGS.items()}
        headings = [turns.get((b[0] - a[0], b[1] - a[1])) for a, b in zip(points, points[1:])]
        if None in headings:
            return None
        return sum(a != b for a, b in zip(headings, headings[1:])), len(headings)

    def show(self, heights, best):
        """Whether heights show that this is best, as point 9 tells it."""
        if any(triple not in heights or heights[triple] > (0, 1) for triple in self.firsts()):
            return False
        for (x, y, heading), (bends, steps) in heights.items():
            if (x, y) not in self.free or heading not in HEADINGS:
                continue
            for turn, ahead in self.steps((x, y)):
                most = (bends + (turn != heading), steps + 1)
                if turn != BACK[heading] and ((*ahead, turn) not in heights or heights[*ahead, turn] > most):
                    return False
        ends = [height for triple, height in heights.items() if triple[:2] in self.other]
        return min(ends, default=None) == best

    def walls(self, points):
        """Whether points show that there is no way, as point 9 tells it."""
        if points != sorted(set(points)) or not set(points) <= self.free:
            return False
        reached = {ahead for point in [*self.one, *points] for heading, ahead in self.steps(point)}
        return reached <= set(points)


def any_saying(rng, names):
    """A saying of some of the names, by chance of a seed."""
    sort = rng.choice(("at", "beside", "alike", "amid")[:len(names) + 1] if len(names) > 1 else ("at",))
    some = rng.sample(names, min(3, len(names)))
    if sort == "at":
        return At(some[0], rng.choice(PARTS), rng.randint(-3, 12))
    if sort == "beside":
        return Beside(some[0], rng.choice(("right", "left", "below", "above")), some[1], rng.randint(-3, 5))
    if sort == "alike":
        return Alike(some[0], rng.choice(PARTS), some[1], rng.choice((1, 1, 2, 3, 9)))
    return Amid(some[0], rng.choice(("across", "down")), *some[1:])


def any_sheets(seed, many, clashing):
    """So many sheets of each size, by chance of a seed, that can or can't be kept."""
    rng = Random(seed)
    while many:
        names = rng.sample(["a", "b", "c", "d", "e", "box"], rng.randint(1, 6))
        wanted = rng.randint(0, 16)
        sayings = []
        worked = numbers_of(names, [])
        for _ in range(wanted):
            saying = any_saying(rng, names)
            parts, number = saying.adds()
            if worked.value(parts) in (None, number) or clashing and rng.random() < 0.3:
                sayings.append(saying)
                worked.add(parts, number)
        if worked.clash == clashing:
            many -= 1
            yield Sheet(names, sayings)


def own_parts(value):
    """The lists and dicts of a value, with those within."""
    found = []
    if isinstance(value, (list, dict)):
        found.append(value)
    if isinstance(value, (list, tuple)):
        for one in value:
            found += own_parts(one)
    if isinstance(value, dict):
        for one in value.values():
            found += own_parts(one)
    return found


def spoil(value):
    """Change each list and dict of a value, with those within."""
    for one in own_parts(value):
        if isinstance(one, list):
            one.reverse()
            one.append("spoilt")
        else:
            one.clear()
            one["spoilt"] = "spoilt"
