"""Numbers and the rows of their digits to a base."""


def digits_of(number, base, size):
    """Return the row of the last so many digits of a number, the first one first."""
    digits = []
    rest = number
    for _ in range(size):
        rest, digit = divmod(rest, base)
        digits.append(digit)
    return tuple(digits[::-1])


def with_digits(digits, base):
    """Return the number that has these digits."""
    number = 0
    for digit in digits:
        number = number * base + digit
    return number
