"""What the lines of a desk ask for that change nothing (13.1)."""

from frontparts.bags import length
from frontparts.errors import NoNumber
from frontparts.fronts import front_parts
from frontparts.places import change_places, root
from frontparts.texts import bag_text, way_text
from frontparts.ways import many_ways, way_at
from frontparts.webs import befores, knots, many_parts
from frontparts.widths import deepest, widest


def told_text(bag):
    """The text of a bag."""
    return bag_text(bag)


def told_length(bag):
    """The length of a bag."""
    return f"{length(bag)}"


def told_knots(bag):
    """The number of knots."""
    return f"{len(knots(bag))}"


def told_befores(bag):
    """The pairs of knots of which one is before the other."""
    pairs = [f"{knot}-{other}" for knot, other in befores(bag)]
    return " ".join(pairs) if pairs else "none"


def told_wide(bag):
    """Of how many knots the widest tuples are."""
    return f"{len(widest(bag))}"


def told_deep(bag):
    """Of how many knots the deepest tuples are."""
    return f"{len(deepest(bag))}"


def told_parts(bag):
    """The number of front parts."""
    return f"{many_parts(bag)}"


def told_part(bag, number):
    """The text of the front part with this number."""
    parts = front_parts(bag)
    if number >= len(parts):
        raise NoNumber()
    return bag_text(parts[number])


def told_ways(bag):
    """The number of ways."""
    return f"{many_ways(bag)}"


def told_way(bag, number):
    """The text of the way with this number."""
    return way_text(way_at(bag, number))


def told_swap(one, other):
    """Whether two bags change places."""
    return "yes" if change_places(one, other) else "no"


def told_root(bag):
    """The text of the root."""
    return bag_text(root(bag))


ANSWERS = {
    "show": told_text, "length": told_length, "knots": told_knots, "befores": told_befores, "wide": told_wide,
    "deep": told_deep, "parts": told_parts, "part": told_part, "ways": told_ways, "way": told_way,
    "swap": told_swap, "root": told_root,
}


def answer(word, things):
    """What the line with this first word tells of bags and numbers."""
    action = ANSWERS[word]
    return action(*things)
