"""Runs: rows of marks, told by the lots that they step back to."""

from copyrates.doing import grades_of
from copyrates.errors import BadMark, OtherSize
from copyrates.kinds import ask_number, ask_place
from copyrates.marks import marks_of
from copyrates.masks import lot_in, mask_of

DIGITS = "0123456789"


def mark_in(word):
    """Return the mark that the word tells, or None if the word has another form."""
    if len(word) != 3 or word[0] not in DIGITS or word[2] not in DIGITS:
        return None
    if word[1] == "<":
        return (int(word[0]), int(word[2]), "take")
    if word[1] == "+":
        return (int(word[0]), int(word[2]), "call")
    return None


def marks_from(text, size):
    """Return what each word of the text tells, a mark or None; size and text are checked, the marks are not."""
    ask_number(size, "size", 2, 6)
    if not isinstance(text, str):
        raise BadMark(-1)
    return [] if len(text) == 0 else [mark_in(word) for word in text.split(" ")]


def source_masks(size, marks):
    """Return for each place the number of the lot of its sources."""
    masks = [1 << place for place in range(size)]
    for i, j, word in marks:
        masks[i] = masks[j] if word == "take" else masks[i] | masks[j]
    return masks


def sources_lot(masks, lot):
    """Return the lot of the sources of all places of the lot, by what `source_masks` returns, or raise BadLot."""
    mask = 0
    for place in lot_in(mask_of(lot, len(masks))):
        mask = mask | masks[place]
    return lot_in(mask)


def step_mask(mark, mask):
    """Return the number of a lot, passed by its number, stepped back by the mark."""
    i, j, word = mark
    if (mask >> i) & 1 == 0:
        return mask
    kept = mask - (1 << i) if word == "take" else mask
    return kept | (1 << j)


def step_back(mark, lot):
    """Return the lot stepped back by one mark."""
    mask = 0
    for place in lot:
        mask = mask | (1 << place)
    return lot_in(step_mask(mark, mask))


def jury_walk(marks, lot, size):
    """Yield the lot, then the lot stepped back by the last mark, and so on to the first."""
    ask_number(size, "size", 2, 6)
    told = marks_of(marks, size)
    mask = mask_of(lot, size)
    yield lot_in(mask)
    for mark in told[::-1]:
        mask = step_mask(mark, mask)
        yield lot_in(mask)


class Run:
    """A row of marks between `size` places; it never changes."""

    def __init__(self, size, marks):
        ask_number(size, "size", 2, 6)
        self.size = size
        self.marks = marks_of(marks, size)
        self._masks = tuple(source_masks(size, self.marks))

    @classmethod
    def from_text(cls, text, size):
        """Return the run whose marks are written as words like 0<1 and 0+1."""
        return cls(size, marks_from(text, size))

    @staticmethod
    def word_of(mark):
        """Return the word of a mark."""
        i, j, word = mark
        return f"{i}<{j}" if word == "take" else f"{i}+{j}"

    def text(self):
        """Return the words of all marks with one space between."""
        return " ".join([Run.word_of(mark) for mark in self.marks])

    def back(self, lot):
        """Return the lot to which the marks step the lot back."""
        return sources_lot(self._masks, lot)

    def sources(self, place):
        """Return the lot of the sources of the place."""
        ask_place(place, self.size)
        return lot_in(self._masks[place])

    def ends(self, grades):
        """Return the grades after the marks, as the run's table tells them."""
        told = grades_of(grades, self.size)
        return tuple([max([told[place] for place in lot_in(mask)]) for mask in self._masks])

    @property
    def table(self):
        """The lots of the sources of all places."""
        return tuple([lot_in(mask) for mask in self._masks])

    @property
    def decided(self):
        """Whether all sources are one lot."""
        return self.jury is not None

    @property
    def jury(self):
        """The lot that all sources are, or None."""
        first = self._masks[0]
        return lot_in(first) if self._masks.count(first) == self.size else None

    def __add__(self, other):
        if not isinstance(other, Run):
            return NotImplemented
        if other.size != self.size:
            raise OtherSize(other.size)
        return Run(self.size, self.marks + other.marks)

    def __and__(self, other):
        # Not by self.back: a desk has a method of that name that changes the desk, and an operator calls none such.
        return sources_lot(self._masks, other)

    def __eq__(self, other):
        return isinstance(other, Run) and self.size == other.size and self._masks == other._masks

    def __iter__(self):
        return iter(self.marks)

    def __len__(self):
        return len(self.marks)
