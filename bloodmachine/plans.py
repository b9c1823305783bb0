"""Plans: rows of pieces (d, w, c), and what a plan asks for second by second."""

MOST_PIECES = 16
MOST_SECONDS = 28800
MOST_WEIGHT = 1000
MOST_PER_HOUR = 1800000
SECONDS_PER_HOUR = 3600


def pieces_of(numbers):
    return [tuple(numbers[i:i + 3]) for i in range(0, len(numbers), 3)]


def is_piece(piece):
    return (
        1 <= piece[0] <= MOST_SECONDS
        and 0 <= piece[1] <= MOST_WEIGHT
        and 0 <= piece[2] <= MOST_PER_HOUR
    )


def is_plan(pieces):
    if not 1 <= len(pieces) <= MOST_PIECES:
        return False
    return all([is_piece(piece) for piece in pieces]) and plan_seconds(pieces) <= MOST_SECONDS


def plan_seconds(pieces):
    return sum([piece[0] for piece in pieces])


def sum_until(pieces, t, part):
    # Piece by piece, not second by second: a plan may have 28800 seconds.
    total = 0
    left = t
    for piece in pieces:
        spent = min(left, piece[0])
        total += spent * piece[part]
        left -= spent
    return total


def weights(pieces, t):
    return sum_until(pieces, t, 1)


def room(pieces, t):
    return sum_until(pieces, t, 2) // SECONDS_PER_HOUR


def target(pieces, goal, t):
    return goal * weights(pieces, t) // weights(pieces, plan_seconds(pieces))
