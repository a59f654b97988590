"""How many books there are, by how many passings they are from one of these."""


def product(one, other):
    """The product of two sums of powers, told by their numbers, that of power 0 first."""
    told = [0] * (len(one) + len(other) - 1)
    for i, left in enumerate(one):
        for j, right in enumerate(other):
            told[i + j] += left * right
    return told


def books_above(many):
    """The sum of powers that is, over books_below, the sum of all books, each as the power of its passings.

    Of so many riders it's (1 + x + .. + x^i) / (1 - x^i), for each i from 1 on below many, all together: Bott's
    theorem on the lengths in an affine group, which the books of a ring are, passings being its steps.
    """
    told = [1]
    for i in range(1, many):
        told = product(told, [1] * (i + 1))
    return told


def books_below(many):
    told = [1]
    for i in range(1, many):
        told = product(told, [1] + [0] * (i - 1) + [-1])
    return told


def number_at(above, below, power):
    """The number of a power in above over below, of which the first number is 1."""
    if power < 0:
        return 0
    while power > 0:
        # Below, taken together with itself at -x, is of even powers alone: so half of all powers go, each time.
        turned = [-number if at & 1 else number for at, number in enumerate(below)]
        above = product(above, turned)[power & 1::2] or [0]
        below = product(below, turned)[::2]
        power //= 2
    return above[0]


def how_many(many, apart):
    return number_at(books_above(many), books_below(many), apart)


def within(many, apart):
    # Over 1 - x each power has the numbers of all powers up to it, together.
    return number_at(books_above(many), product(books_below(many), [1, -1]), apart)
