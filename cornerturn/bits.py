"""Places of a web as bits of a number: the place at k in the web's sequence is the bit 1 << k."""


def bits_of(number):
    """Return the list of the positions of the bits that a number has, the lowest first."""
    return [at for at in range(number.bit_length()) if number >> at & 1]


def united(numbers, chosen):
    """Return the number with all bits of those of the numbers that stand at the chosen positions."""
    whole = 0
    for at in chosen:
        whole |= numbers[at]
    return whole
