"""What a desk keeps at one moment."""

from copyrates.doing import after_mark


class Setting:
    """A world as set, held places, the grades at the beginning, the marks done and the grades now; it never changes.

    The held places are told by the number of their lot.
    """

    def __init__(self, world, mask, first, marks, row):
        self.world = world
        self.mask = mask
        self.first = first
        self.marks = marks
        self.row = row

    def marked(self, mark):
        """Return the setting behind the mark."""
        return Setting(self.world, self.mask, self.first, self.marks + (mark,), after_mark(self.row, mark))

    def rated(self, world):
        """Return the setting with this world as set."""
        return Setting(world, self.mask, self.first, self.marks, self.row)

    def masked(self, mask):
        """Return the setting with the held places that this number tells."""
        return Setting(self.world, mask, self.first, self.marks, self.row)

    def begun(self, row):
        """Return the setting with these grades, and no marks done."""
        return Setting(self.world, self.mask, row, (), row)
