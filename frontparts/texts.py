"""Bags, rows, ways and webs as texts (12.1, 12.3 and 12.4)."""

from frontparts.bags import are_bags, check_bags, is_plain, length
from frontparts.errors import NoWay
from frontparts.lots import Web


def bag_text(bag):
    """The words of a bag in order, with their numbers."""
    if not bag.words:
        return "0"
    return " + ".join([term_text(word, number) for word, number in bag.words])


def term_text(word, number):
    """One word with its number."""
    if word == "":
        return f"{number}"
    return word if number == 1 else f"{number} {word}"


def row_text(bags):
    """A line with the clock, then a line for each bag."""
    check_bags(bags)
    return lines_text([f"{bags[0].clock}"] + [bag_text(bag) for bag in bags])


def lines_text(lines):
    """Lines, each closed by a line feed."""
    return "".join([line + "\n" for line in lines])


def way_text(way):
    """The texts of the bags of a way."""
    if not is_way(way):
        raise NoWay()
    return " . ".join([bag_text(bag) for bag in way]) if way else "1"


def is_way(thing):
    """Whether a thing is a tuple of plain bags of one letter or more, all of one clock."""
    if not isinstance(thing, tuple):
        return False
    return thing == () or (are_bags(thing) and all([is_plain(bag) and length(bag) > 0 for bag in thing]))


def web_text(bag):
    """A line for each knot, then a line for each pair of knots of which one is before the other."""
    web = Web(bag)
    return lines_text([bag_text(knot) for knot in web.knots] + [f"{knot} {other}" for knot, other in web.pairs()])
