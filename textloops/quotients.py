"""Rows of fractions with one bottom for all: pairs of a list of whole numbers and the bottom, which is at least 1."""

from math import gcd, lcm


def lowest(top, bottom):
    """Returns the fraction as a pair in lowest terms; the bottom has to be at least 1."""
    common = gcd(top, bottom)
    return (top // common, bottom // common)


def lowest_row(tops, bottom):
    """Returns the row in lowest terms."""
    common = bottom
    for top in tops:
        if common == 1:
            return (tops, bottom)
        common = gcd(common, top)
    return ([top // common for top in tops], bottom // common)


def common_bottom(fractions):
    """Returns the least number that all bottoms of the fractions divide."""
    bottom = 1
    for fraction in fractions:
        bottom = lcm(bottom, fraction[1])
    return bottom


def mixed(rows, factors):
    """Returns the sum of the rows, each one times its factor, a whole number."""
    bottom = 1
    for row in rows:
        bottom = lcm(bottom, row[1])
    found = [0 for _ in rows[0][0]]
    for (tops, own), factor in zip(rows, factors):
        times = factor * (bottom // own)
        if times != 0:
            found = [one + times * two for one, two in zip(found, tops)]
    return lowest_row(found, bottom)
