"""What of a window is left when a part, moved by minus the mates of places, is taken from it, unchecked."""

from wholefloors.planes import mate_spot, moved_lines, parted
from wholefloors.wholes import number_less, size_of, whole_floor
from wholefloors.windows import View, span_of, wholes_between

# Boxes (left, low, right, high) are told in steps of 1 by 2 to this power, rounded outward.
ROUGH = 20

# So many tiles, and one more, lie side by side in a window at most.
TILES = 40


class Cover:
    """A part's pieces, as (lines, box), and what is left of a window: pieces, as (corners, box).

    A piece that is left is compared with those pieces of the part alone, each moved, that reach into a tile with it.
    """

    def __init__(self, view, pieces):
        kind = view.kind
        views = [View(kind, corners) for corners in pieces]
        self.kind = kind
        self.part = [(piece.lines, _box_of(kind, piece.corners)) for piece in views]
        self.across = _between(kind, [piece.across for piece in views], view.across)
        self.upward = _between(kind, [piece.upward for piece in views], view.upward)
        window = _box_of(kind, view.corners)
        # A tile is as great as a piece of the part, but the window has only so many of them.
        self.size = max([_size(box) for _, box in self.part] + [_size(window) // TILES + 1])
        self.left = [(view.corners, window)]

    def take(self, radius):
        """Take away the part, moved by minus the mates of all places of just this size."""
        moved = []
        for step in self._steps(radius):
            back = mate_spot(self.kind, step)
            right, up = [whole_floor(self.kind, back[at] << ROUGH, back[at + 1] << ROUGH, 1) for at in (0, 2)]
            for lines, box in self.part:
                moved_box = (box[0] - right - 1, box[1] - up - 1, box[2] - right, box[3] - up)
                moved.append((moved_lines(self.kind, lines, back), moved_box))
        tiles = _tiles_of(moved, self.size)
        left = []
        for corners, box in self.left:
            left.extend(self._less(corners, box, _touching(tiles, box, self.size)))
        self.left = left

    def _steps(self, radius):
        """The places of just this size whose mates can bring a point of the window into the part."""
        span = ((-radius, 0, 1), (radius, 0, 1))
        firsts = [(size_of(self.kind, pair), pair) for pair in wholes_between(self.kind, span, self.across)]
        seconds = [(size_of(self.kind, pair), pair) for pair in wholes_between(self.kind, span, self.upward)]
        return [(x, y) for wide, x in firsts for high, y in seconds if wide == radius or high == radius]

    def _less(self, corners, box, moved):
        """A piece, less all of some polygons, as (lines, box): pieces, as (corners, box)."""
        pieces = [(corners, box)]
        for lines, around in moved:
            finer = []
            for piece, near in pieces:
                if not _meet(near, around):
                    finer.append((piece, near))
                    continue
                inside, outside = parted(self.kind, piece, lines)
                if inside is None:
                    finer.append((piece, near))
                else:
                    finer.extend([(outer, _box_of(self.kind, outer)) for outer in outside])
            pieces = finer
        return pieces


def _box_of(kind, corners):
    """The box that has some corners inside or on its rim."""
    firsts = [whole_floor(kind, spot[0] << ROUGH, spot[1] << ROUGH, spot[4]) for spot in corners]
    seconds = [whole_floor(kind, spot[2] << ROUGH, spot[3] << ROUGH, spot[4]) for spot in corners]
    return (min(firsts), min(seconds), max(firsts) + 1, max(seconds) + 1)


def _size(box):
    """The greater side of a box."""
    return max(box[2] - box[0], box[3] - box[1])


def _meet(one, other):
    """True if two boxes have a point in common."""
    return one[0] <= other[2] and other[0] <= one[2] and one[1] <= other[3] and other[1] <= one[3]


def _tiles_of(moved, size):
    """A dict of square tiles of a size, each with those of some polygons, as (lines, box), that may reach into it."""
    tiles = {}
    for at, (_, box) in enumerate(moved):
        for tile in _tiles_under(box, size):
            tiles.setdefault(tile, []).append(moved[at])
    return tiles


def _tiles_under(box, size):
    """The tiles of a size that a box reaches into."""
    left, low, right, high = [told // size for told in box]
    return [(column, row) for column in range(left, right + 1) for row in range(low, high + 1)]


def _touching(tiles, box, size):
    """Those of the polygons in some tiles whose boxes meet a box, each once."""
    found = []
    for tile in _tiles_under(box, size):
        for told in tiles.get(tile, []):
            # What meets the box in several tiles counts in the one of the corner at which it begins to.
            around = told[1]
            first = (max(around[0], box[0]) // size, max(around[1], box[1]) // size)
            if first == tile and _meet(around, box):
                found.append(told)
    return found


def _between(kind, spans, span):
    """The span of what is a number of one of some spans less a number of a span."""
    low, high = span_of(kind, [end for told in spans for end in told])
    return (number_less(low, span[1]), number_less(high, span[0]))
