"""Fractions: tuples (top, bottom) of whole numbers in lowest terms, the bottom from 1 on."""

from turnarrows.kinds import is_tuple_within, is_whole
from turnarrows.squares import common_divisor


def fraction(top, bottom):
    """In lowest terms; the bottom may be below nought, but not nought."""
    divisor = common_divisor([top, bottom])
    if bottom < 0:
        divisor = -divisor
    return (top // divisor, bottom // divisor)


def whole(number):
    return (number, 1)


def is_fraction(thing):
    if not is_tuple_within(thing, 2, 2):
        return False
    if not is_whole(thing[0]) or not is_whole(thing[1]):
        return False
    return thing[1] >= 1 and common_divisor(thing) == 1


def times(number, one):
    return fraction(number * one[0], one[1])


def added(one, other):
    return fraction(one[0] * other[1] + other[0] * one[1], one[1] * other[1])


def taken_off(one, other):
    return added(one, times(-1, other))


def sum_of(many):
    told = whole(0)
    for one in many:
        told = added(told, one)
    return told


def is_less(one, other):
    return one[0] * other[1] < other[0] * one[1]


def greatest(many):
    told = many[0]
    for one in many:
        if is_less(told, one):
            told = one
    return told


def least(many):
    return times(-1, greatest([times(-1, one) for one in many]))
