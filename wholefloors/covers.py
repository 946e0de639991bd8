"""What of a window is left when a part, moved by minus the mates of places, is taken from it, unchecked."""

from wholefloors.pieces import box_around, boxes_meet, moved_takers, rest_of
from wholefloors.planes import mate_spot
from wholefloors.wholes import number_less, size_of
from wholefloors.windows import View, span_of, wholes_between

# So many tiles, and one more, lie side by side in a window at most.
TILES = 40


class Cover:
    """The takers of a part's pieces, and what is left of a window: pieces.

    A piece that is left is compared with those pieces of the part alone, each moved, that reach into a tile with it.
    """

    def __init__(self, view, pieces):
        kind = view.kind
        views = [View(kind, corners) for corners in pieces]
        self.kind = kind
        self.part = [(piece.lines, box_around(kind, piece.corners)) for piece in views]
        self.across = _between(kind, [piece.across for piece in views], view.across)
        self.upward = _between(kind, [piece.upward for piece in views], view.upward)
        window = box_around(kind, view.corners)
        # A tile is as great as a piece of the part, but the window has only so many of them.
        self.size = max([_size(box) for _, box in self.part] + [_size(window) // TILES + 1])
        self.left = [(view.corners, window)]

    def take(self, radius):
        """Take away the part, moved by minus the mates of all places of just this size."""
        moved = []
        for step in self._steps(radius):
            moved.extend(moved_takers(self.kind, self.part, mate_spot(self.kind, step)))
        tiles = _tiles_of(moved, self.size)
        left = []
        for piece in self.left:
            left.extend(rest_of(self.kind, piece, _touching(tiles, piece[1], self.size)))
        self.left = left

    def _steps(self, radius):
        """The places of just this size whose mates can bring a point of the window into the part."""
        span = ((-radius, 0, 1), (radius, 0, 1))
        firsts = [(size_of(self.kind, pair), pair) for pair in wholes_between(self.kind, span, self.across)]
        seconds = [(size_of(self.kind, pair), pair) for pair in wholes_between(self.kind, span, self.upward)]
        return [(x, y) for wide, x in firsts for high, y in seconds if wide == radius or high == radius]


def distance_of(cover):
    """The least radius within which nothing of a cover's window is left."""
    far = 0
    cover.take(far)
    while cover.left:
        far += 1
        cover.take(far)
    return far


def _size(box):
    """The greater side of a box."""
    return max(box[2] - box[0], box[3] - box[1])


def _tiles_of(moved, size):
    """A dict of square tiles of a size, each with those of some takers that may reach into it."""
    tiles = {}
    for at, (_, box) in enumerate(moved):
        for tile in _tiles_under(box, size):
            tiles.setdefault(tile, []).append(moved[at])
    return tiles


def _tiles_under(box, size):
    """The tiles of a size that a box reaches into."""
    left, low, right, high = [told // size for told in box]
    return [(column, row) for column in range(left, right + 1) for row in range(low, high + 1)]


def _touching(tiles, box, size):
    """Those of the takers in some tiles whose boxes meet a box, each once."""
    found = []
    for tile in _tiles_under(box, size):
        for told in tiles.get(tile, []):
            # What meets the box in several tiles counts in the one of the corner at which it begins to.
            around = told[1]
            first = (max(around[0], box[0]) // size, max(around[1], box[1]) // size)
            if first == tile and boxes_meet(around, box):
                found.append(told)
    return found


def _between(kind, spans, span):
    """The span of what is a number of one of some spans less a number of a span."""
    low, high = span_of(kind, [end for told in spans for end in told])
    return (number_less(low, span[1]), number_less(high, span[0]))
