"""Powers of a base, and the noughts that integers have at their end in it."""


def power(base, exponent):
    """base ** exponent."""
    result = 1
    for _ in range(exponent):
        result = result * base
    return result


def goes(base, number):
    """How often base goes into number, which is not 0."""
    many = 0
    rest = number
    while rest % base == 0:
        rest = rest // base
        many += 1
    return many


def stripped(base, number):
    """number without the noughts at its end in base; 0 stays 0."""
    rest = number
    while rest != 0 and rest % base == 0:
        rest = rest // base
    return rest
