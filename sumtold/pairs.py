"""Pairs (num by den), parts (num by 2 ** e), and rows of parts."""


def is_whole_number(thing):
    # Python counts truths among the ints.
    return isinstance(thing, int) and not isinstance(thing, bool)


def is_two_whole_numbers(thing):
    if not isinstance(thing, tuple) or len(thing) != 2:
        return False
    return is_whole_number(thing[0]) and is_whole_number(thing[1])


def greatest_divisor(one, other):
    one, other = abs(one), abs(other)
    while other != 0:
        one, other = other, one % other
    return one


def pair(num, den):
    divisor = greatest_divisor(num, den)
    if den < 0:
        divisor = -divisor
    return (num // divisor, den // divisor)


def is_pair(thing):
    if not is_two_whole_numbers(thing):
        return False
    num, den = thing
    return den > 0 and greatest_divisor(num, den) == 1


def plus(one, other):
    return pair(one[0] * other[1] + other[0] * one[1], one[1] * other[1])


def less(one, other):
    return pair(one[0] * other[1] - other[0] * one[1], one[1] * other[1])


def times(one, other):
    return pair(one[0] * other[0], one[1] * other[1])


def below(one, other):
    return one[0] * other[1] < other[0] * one[1]


def nearest(one):
    num, den = one
    # The floor of the number and a half: so of two alike near it is the greater.
    return (2 * num + den) // (2 * den)


def part(num, e):
    if num == 0:
        return (0, 0)
    # num & -num is the greatest power of two that divides num, of either sign.
    twos = (num & -num).bit_length() - 1
    dropped = min(twos, e)
    return (num >> dropped, e - dropped)


def is_part(thing):
    if not is_two_whole_numbers(thing):
        return False
    num, e = thing
    return e == 0 or (e > 0 and (num & 1) == 1)


def part_plus(one, other):
    e = max(one[1], other[1])
    return part((one[0] << (e - one[1])) + (other[0] << (e - other[1])), e)


def part_less(one, other):
    return part_plus(one, (-other[0], other[1]))


def part_over(one, other):
    # Only the difference of both e counts; shifting by it alone keeps the numbers small.
    e = min(one[1], other[1])
    return pair(one[0] << (other[1] - e), other[0] << (one[1] - e))


def halvings(many):
    return many.bit_length()


def own_row(numbers):
    return tuple((number, 0) for number in numbers) + ((1, 0),)


def zero_row(many):
    return ((0, 0),) * (many + 1)


def row_plus(one, other):
    return tuple(part_plus(mine, yours) for mine, yours in zip(one, other))


def row_less(one, other):
    return tuple(part_less(mine, yours) for mine, yours in zip(one, other))


def row_halved(row, c):
    return tuple(part(num, e + c) for num, e in row)


def row_times(row, many):
    return tuple(part(num * many, e) for num, e in row)
