"""Sets of small numbers, each told by one integer: the bit of each member is set."""


def numbers_in(mask):
    """The numbers in a set, ascending."""
    found = []
    while mask:
        low = mask & -mask
        found.append(low.bit_length() - 1)
        mask = mask ^ low
    return found


def gathered(masks, mask):
    """The union of the sets of a list whose numbers are in a set."""
    found = 0
    for number in numbers_in(mask):
        found = found | masks[number]
    return found


def mask_of(numbers):
    """The set of these numbers."""
    found = 0
    for number in numbers:
        found = found | 1 << number
    return found


def turned_about(masks, many):
    """For each number below so many, the set of the numbers in whose sets it is."""
    found = [0] * many
    for number, mask in enumerate(masks):
        for other in numbers_in(mask):
            found[other] = found[other] | 1 << number
    return found
