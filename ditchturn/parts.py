"""Parts: fractions as tuples (top, bottom) in lowest terms, the bottom at least 1."""

from ditchturn.errors import BadPart

FIGURES = "0123456789"
MOST_FIGURES_READ = 400
PIECE_FIGURES = 64
PIECE = 10 ** 64


def common(a, b):
    """The greatest whole number that divides both a and b, b at least 1."""
    # No sign has to be dropped: with b above nought each rest is nought or above.
    while b > 0:
        a, b = b, a % b
    return a


def lowest(top, bottom):
    """The part top / bottom, the bottom at least 1."""
    shared = common(top, bottom)
    return (top // shared, bottom // shared)


def plus(a, b):
    """The part a + b."""
    shared = common(a[1], b[1])
    rest = a[1] // shared
    top = a[0] * (b[1] // shared) + b[0] * rest
    # As a and b are in lowest terms, whatever divides the new top and bottom divides
    # what their bottoms share: this keeps long sums quick, whose bottoms grow large.
    again = common(top, shared)
    return (top // again, rest * (b[1] // again))


def minus(a, b):
    """The part a - b."""
    return plus(a, (-b[0], b[1]))


def times(a, b):
    """The part a times b."""
    return lowest(a[0] * b[0], a[1] * b[1])


def over(a, b):
    """The part a divided by b, b above nought."""
    return lowest(a[0] * b[1], a[1] * b[0])


def total(row):
    """The sum of a list of parts."""
    result = (0, 1)
    for part in row:
        result = plus(result, part)
    return result


def below(a, b):
    """True where a is less than b, else False."""
    return a[0] * b[1] < b[0] * a[1]


def floor_of(a):
    """The greatest whole number that isn't above a."""
    return a[0] // a[1]


def ceil_of(a):
    """The least whole number that isn't below a."""
    return -(-a[0] // a[1])


def number_text(number):
    """The figures of a whole number, with - ahead of one below nought."""
    if number < 0:
        return "-" + number_text(-number)
    # Piece by piece, as str refuses numbers of more than some thousands of figures.
    pieces = []
    while number >= PIECE:
        pieces.append(str(number % PIECE).zfill(PIECE_FIGURES))
        number = number // PIECE
    pieces.append(str(number))
    return "".join(pieces[::-1])


def part_text(a):
    """The text of a part: its top, / and its bottom."""
    return number_text(a[0]) + "/" + number_text(a[1])


def is_number(text):
    """True where the text is a whole number from nought up, by figures without a nought ahead."""
    if text == "":
        return False
    if text[0] == "0":
        return text == "0"
    return all([sign in FIGURES for sign in text])


def number_read(figures):
    """The whole number from nought up that these figures write."""
    # Piece by piece, as int refuses texts of more than some thousands of figures.
    pieces = -(-len(figures) // PIECE_FIGURES)
    row = figures.zfill(pieces * PIECE_FIGURES)
    number = 0
    for at in range(0, len(row), PIECE_FIGURES):
        number = number * PIECE + int(row[at:at + PIECE_FIGURES])
    return number


def long_part_read(text):
    """The part that a text writes by numbers of any count of figures; BadPart for every other text."""
    top, slash, bottom = text.partition("/")
    size = top.removeprefix("-")
    if not is_number(size) or not is_number(bottom):
        raise BadPart("not two whole numbers with a / between")
    if top == "-0" or bottom == "0":
        raise BadPart("a nought below nought, or at the bottom")
    sign = -1 if top != size else 1
    part = (sign * number_read(size), number_read(bottom))
    if lowest(part[0], part[1]) != part:
        raise BadPart("not in lowest terms")
    return part


def part_read(text):
    """The part that a text writes; every other text is refused with BadPart."""
    top, slash, bottom = text.partition("/")
    # Ahead of all else, so that no text of any length is looked through or reckoned.
    if len(top.removeprefix("-")) > MOST_FIGURES_READ or len(bottom) > MOST_FIGURES_READ:
        raise BadPart("a number of more than 400 figures")
    return long_part_read(text)
