"""Fractions: pairs (top, bottom) without a common divisor above 1, the bottom from 1 on."""

from math import gcd


def reduced(top, bottom):
    """The fraction of an integer and one above 0."""
    shared = gcd(top, bottom)
    return top // shared, bottom // shared


def sum_of(one, other):
    """One fraction and another one together."""
    return reduced(one[0] * other[1] + other[0] * one[1], one[1] * other[1])


def part_of(share, top, bottom):
    """A fraction, times an integer, divided by one above 0."""
    return reduced(share[0] * top, share[1] * bottom)


def power_of(number, times):
    """An integer multiplied by itself so many times; 1 for none."""
    found = 1
    for _ in range(times):
        found *= number
    return found
