"""What is there between two calls."""

from keepclear.rulebook import Rulebook
from keepclear.words import fits_of_words


class Water:
    def __init__(self):
        self.fits = fits_of_words()
        self.book = Rulebook([], self.fits)
        self.wind = (0, 1)
        # The pair p, q: how close to the wind one may sail.
        self.closeness = (1, 1)
        self.mark = (0, 0)
        self.zone = 0
        # The boats that are there, by their numbers.
        self.boats = {}
        # By pairs (lesser, greater): the one of both that has room.
        self.rooms = {}
