"""A boat, and what its placing tells of its tack."""

from keepclear.geometry import cross_product, less, product


class Boat:
    def __init__(self, bow, stern, port, tacking):
        self.bow = bow
        self.stern = stern
        # Both 1 or 0, as they are told.
        self.port = port
        self.tacking = tacking


def heading_of(boat):
    return less(boat.bow, boat.stern)


# before is the boat as it was, None if it wasn't there.
def tack_of(heading, wind, before):
    side = cross_product(heading, wind)
    if side == 0:
        return 0 if before is None else before.port
    return 1 if side > 0 else 0


# closeness is the pair p, q.
def is_too_close(heading, wind, closeness):
    ahead = product(heading, wind)
    side = abs(cross_product(heading, wind))
    return ahead > 0 and closeness[1] * side < closeness[0] * ahead


def goes_on_tacking(port, before):
    return before is not None and (before.tacking == 1 or before.port != port)


def boat_placed(bow, stern, before, wind, closeness):
    heading = less(bow, stern)
    port = tack_of(heading, wind, before)
    tacking = 0
    if is_too_close(heading, wind, closeness) and goes_on_tacking(port, before):
        tacking = 1
    return Boat(bow, stern, port, tacking)


# move tells for each place where it goes to; other_tack is 1 if the boat is on its other tack then, else 0.
def boat_moved(boat, move, other_tack):
    port = 1 - boat.port if other_tack == 1 else boat.port
    return Boat(move(boat.bow), move(boat.stern), port, boat.tacking)
