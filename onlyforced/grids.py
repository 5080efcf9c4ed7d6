"""All pages over sizes, numbered as they rise; several of them are kept as one number, a mask."""


def product_of(sizes):
    """How many pages there are over sizes."""
    many = 1
    for size in sizes:
        many *= size
    return many


class Grid:
    """All pages over sizes. The bit number k of a mask tells whether the page number k is in it."""

    def __init__(self, sizes):
        self._sizes = sizes
        self._all = (1 << product_of(sizes)) - 1
        self._having = [self._masks_at(setting) for setting in range(len(sizes))]

    def _masks_at(self, setting):
        """For each worth of the setting the mask of the pages that have it."""
        # The worths come in turn, each on as many pages in a row as the settings behind tell.
        run = product_of(self._sizes[setting + 1:])
        turn = run * self._sizes[setting]
        # One bit where each turn begins: all turns together divided by one of them.
        begins = self._all // ((1 << turn) - 1)
        return [begins * ((1 << run) - 1) << worth * run for worth in range(self._sizes[setting])]

    def all_pages(self):
        """The mask of all pages."""
        return self._all

    def having(self, setting, worth):
        """The mask of the pages that have this worth at the setting."""
        return self._having[setting][worth]

    def how_many(self, mask):
        """How many pages are in a mask."""
        return f"{mask:b}".count("1")

    def _page_at(self, number):
        """The page with this number."""
        worths = []
        for size in self._sizes[::-1]:
            number, worth = divmod(number, size)
            worths.append(worth)
        return tuple(worths[::-1])

    def pages_in(self, mask):
        """The pages in a mask, rising."""
        pages = []
        while mask:
            low = mask & -mask
            pages.append(self._page_at(low.bit_length() - 1))
            mask ^= low
        return tuple(pages)
