"""Places of a web as bits of a number: the place at k in the web's sequence is the bit 1 << k."""


def bits_of(number):
    """Return the list of the positions of the bits that a number has, the lowest first."""
    return [at for at in range(number.bit_length()) if number >> at & 1]


def united(numbers, chosen):
    """Return the number with all bits of those of the numbers that stand at the chosen positions."""
    whole = 0
    for at in chosen:
        whole |= numbers[at]
    return whole


def common(numbers, chosen):
    """Return the number with the bits that all those of the numbers have that stand at one or more positions."""
    shared = numbers[chosen[0]]
    for at in chosen:
        shared &= numbers[at]
    return shared


def spread(sights, start, most, barred):
    """Return the places that are at most so many ties away from one, on ways through none of the barred places."""
    reached = 1 << start
    fresh = reached
    for _ in range(most):
        fresh = united(sights, bits_of(fresh)) & ~(reached | barred)
        if fresh == 0:
            break
        reached |= fresh
    return reached
