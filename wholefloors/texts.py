"""Numbers, places, floors, rows, regions, sayings, rules and papers as texts."""

# So many figures at once are written by Python itself, which refuses to write integers of thousands.
FIGURES = 18
PART = 1000000000000000000


def show_integer(n):
    """An integer, of any size."""
    if n < 0:
        return "-" + show_integer(-n)
    parts = []
    while n >= PART:
        n, part = divmod(n, PART)
        parts.append(str(part).zfill(FIGURES))
    parts.append(str(n))
    parts.reverse()
    return "".join(parts)


def show_number(p):
    """A number: A, A+Bw or A-Bw, over N if it is no whole one."""
    a, b, n = p
    whole = show_whole((a, b))
    if n == 1:
        return whole
    if b == 0:
        return whole + "/" + show_integer(n)
    return "(" + whole + ")/" + show_integer(n)


def show_whole(pair):
    """A whole number: A, A+Bw or A-Bw."""
    a, b = pair
    if b == 0:
        return show_integer(a)
    sign = "+" if b > 0 else "-"
    return show_integer(a) + sign + show_integer(abs(b)) + "w"


def show_point(point):
    """Both numbers of a point."""
    x, y = point
    return show_number(x) + " " + show_number(y)


def show_place(place):
    """Both numbers of a place."""
    x, y = place
    return show_whole(x) + " " + show_whole(y)


def show_places(places):
    """The places of a list or tuple, - for none."""
    if not places:
        return "-"
    return ", ".join([show_place(place) for place in places])


def show_floor(floor):
    """A floor: its kind, then a corner on each line."""
    kind, window = floor
    return "\n".join(["floor " + show_integer(kind)] + [show_point(point) for point in window])


def show_row(row):
    """A row: its kind and both numbers."""
    kind, low, high = row
    return " ".join(["row", show_integer(kind), show_number(low), show_number(high)])


def show_word(word):
    """The indexes of a word, - for none."""
    if not word:
        return "-"
    return " ".join([show_integer(at) for at in word])


def show_region(region):
    """A region: the corners of a polygon on each line, - for none."""
    if not region:
        return "-"
    return "\n".join([", ".join([show_point(point) for point in polygon]) for polygon in region])


def show_saying(saying):
    """A saying, with each saying in brackets."""
    parts = []
    # What is still to be shown, the next one last; a saying within sayings may be deep.
    waiting = [saying]
    while waiting:
        told = waiting.pop()
        if isinstance(told, str):
            parts.append(told)
        else:
            waiting.append(")")
            for part in reversed(told[1:]):
                waiting.append(_shown_part(part))
                waiting.append(" ")
            waiting.append("(" + told[0])
    return "".join(parts)


def _shown_part(part):
    """What stands behind the word of a saying: a text, a saying as it is."""
    if not isinstance(part, tuple):
        return show_integer(part)
    if isinstance(part[0], str):
        return part
    return show_place(part)


def show_rule(rule):
    """A telling rule: a patch and its steps on each line."""
    return "\n".join([show_places(patch) + " : " + show_places(steps) for patch, steps in rule])


def show_paper(paper):
    """A paper of a saying, or of lines."""
    word = paper[0]
    if word == "some":
        return "some " + show_place(paper[1]) + " / " + show_place(paper[2])
    if word == "told":
        return "told " + ", ".join([show_integer(i) + " " + show_place(place) for i, place in paper[1]])
    if word == "never":
        return "never " + show_integer(paper[1])
    return word
