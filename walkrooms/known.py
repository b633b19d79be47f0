"""Stands that were come to, those that are the same counted once."""

from walkrooms.sameness import shapes_matched
from walkrooms.shapes import Marks, Shape


class Known:
    """Stands that are not the same, numbered from 0 on as they are come to.

    Where bases are kept, stands that are the same only by a renaming that doesn't keep them count each; where news
    are kept, those too that are the same only where what new binds is called otherwise.
    """

    def __init__(self, keeps_bases, keeps_news):
        self.keeps_bases = keeps_bases
        self.keeps_news = keeps_news
        self.marks = Marks()
        self.met = []
        self.lots = {}

    def number_of_stand(self, stand):
        """The number of the stand that is the same as this one, a new one where there is none yet."""
        shape = Shape(stand[1], self.marks, self.keeps_bases, self.keeps_news)
        lot = self.lots.setdefault(shape.sign, [])
        for number, other in lot:
            if shapes_matched(shape, other) is not None:
                return number
        number = len(self.met)
        lot.append((number, shape))
        self.met.append(stand)
        return number
