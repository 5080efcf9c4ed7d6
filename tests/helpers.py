"""What several tests share: exact looks at errors and answers, and things to be judged."""

import itertools
import random
import time

from onlyforced.errors import BadBook, BadSaying, BadSizes, Refused
from onlyforced.sorts import sort_of

# The law of DOC.md [8]: the state is draft, or the lock is on.
T = ((3, 2), ((0, 0), (0, 1), (1, 1), (2, 1)))

# The table of DOC.md [12]: an even number of the three settings is 1.
E = ((2, 2, 2), ((0, 0, 0), (0, 1, 1), (1, 0, 1), (1, 1, 0)))

# The books of DOC.md [24]: M is "at most one of three", no page keeps N.
M = ((2, 2, 2), (("either", 0, 0, 1, 0), ("either", 0, 0, 2, 0), ("either", 1, 0, 2, 0)))
C = ((2, 2), (("either", 0, 0, 1, 0), ("either", 0, 0, 1, 1)))
N = ((2, 2), C[1] + (("either", 0, 1, 1, 0), ("either", 0, 1, 1, 1)))

# The book of DOC.md [28].
H = ((2, 2, 2), (("either", 0, 0, 1, 1), ("either", 1, 0, 2, 1)))

DEEP = 50


def nested(depth, core):
    """The core within as many tuples as depth tells."""
    for _ in range(depth):
        core = (core,)
    return core


ATOMS = (
    None, True, False, 0, 1, 2, -1, 6, 7, 24, 25, 10 ** 40, -(10 ** 40), "", "a", "ab", "free",
)

THINGS = ATOMS + (
    (), (0,), (1,), (True,), (None,), ("a",), (1, 1), (2, 2), (0, 0), ("a", "b"), ((),), ((), ()),
    (0, 1), (1, 0), (True, 1), (1, True), (False, 0), (None, None), ((0, 0),), ((0, 1), (1, 0)),
    ((2, 2), ()), ((2, 2), ((0, 0),)), ((2, 2), ((True, False),)), ((2, 2), "ab"), ("ab", ((0, 0),)),
    nested(DEEP, 0), nested(DEEP, None), nested(DEEP, "a"), (2, nested(DEEP - 1, 1)),
    ((2, 2), (nested(DEEP - 2, 1),)), (nested(DEEP - 1, ()), nested(DEEP - 1, ())),
)


def refused(case, error, what, call, *args, **named):
    """Expect a call to raise just this error, with just this what."""
    with case.assertRaises(Refused) as caught:
        call(*args, **named)
    case.assertIs(type(caught.exception), error)
    case.assertIs(type(caught.exception.what), type(what))
    case.assertEqual(caught.exception.what, what)


def exactly(case, answer, wanted):
    """Expect an answer of the same parts and of the same kinds: True is not 1 here."""
    case.assertEqual(repr(answer), repr(wanted))


class Quick:
    """Expect what is done within it to be done soon."""

    def __init__(self, case, seconds=1.5):
        self.case = case
        self.seconds = seconds

    def __enter__(self):
        self.begun = time.monotonic()

    def __exit__(self, *told):
        self.case.assertLess(time.monotonic() - self.begun, self.seconds)


def random_thing(source, depth):
    """Some value of tuples, texts, numbers, bools and None."""
    if depth == 0 or source.random() < 0.3:
        return source.choice(ATOMS)
    if source.random() < 0.1:
        return nested(source.randint(1, DEEP - 10), source.choice(ATOMS))
    return tuple(random_thing(source, depth - 1) for _ in range(source.randint(0, 4)))


def spoilt(source, thing):
    """A thing with one place in it changed."""
    if not isinstance(thing, tuple) or not thing or source.random() < 0.15:
        return random_thing(source, 2)
    at = source.randrange(len(thing))
    way = source.random()
    if way < 0.1:
        return thing[:at] + thing[at + 1:]
    if way < 0.2:
        return thing[:at] + (thing[at],) + thing[at:]
    if way < 0.3:
        return thing[::-1]
    return thing[:at] + (spoilt(source, thing[at]),) + thing[at + 1:]


def random_sizes(source, most):
    return tuple(source.randint(1, 4) for _ in range(source.randint(1, most)))


def random_page(source, sizes):
    return tuple(source.randrange(many) for many in sizes)


def random_edit(source, sizes):
    told = [at for at in range(len(sizes)) if source.random() < 0.4]
    return tuple((at, source.randrange(sizes[at])) for at in told)


def random_table(source, most_settings=4, most_pages=12):
    sizes = random_sizes(source, most_settings)
    many = source.randint(1, most_pages)
    return (sizes, tuple(sorted({random_page(source, sizes) for _ in range(many)})))


def all_pages(sizes):
    """All pages over sizes, rising."""
    return list(itertools.product(*[range(many) for many in sizes]))


def all_edits(sizes):
    """All edits over sizes, rising."""
    edits = []
    for worths in itertools.product(*[[None] + list(range(many)) for many in sizes]):
        edits.append(tuple((at, worth) for at, worth in enumerate(worths) if worth is not None))
    return sorted(edits)


def saying_kept(saying, page):
    """Whether a page keeps a saying, as [19] tells it."""
    match saying:
        case ("own", i, worths):
            return page[i] in worths
        case ("tied", i, j, pairs):
            return (page[i], page[j]) in pairs
        case ("either", i, a, j, b):
            return page[i] == a or page[j] == b


def lawful_pages(book):
    """The pages that keep all sayings of a book, rising, gone through page by page."""
    sizes, sayings = book
    return [page for page in all_pages(sizes) if all(saying_kept(one, page) for one in sayings)]


def all_sayings(sizes):
    """All sayings over sizes."""
    for i, many in enumerate(sizes):
        for most in range(1, many + 1):
            for worths in itertools.combinations(range(many), most):
                yield ("own", i, worths)
    for i, j in itertools.combinations(range(len(sizes)), 2):
        for a, b in itertools.product(range(sizes[i]), range(sizes[j])):
            yield ("either", i, a, j, b)
        for most in range(1, min(sizes[i], sizes[j]) + 1):
            for firsts in itertools.combinations(range(sizes[i]), most):
                for seconds in itertools.permutations(range(sizes[j]), most):
                    yield ("tied", i, j, tuple(zip(firsts, seconds)))


def random_saying(source, sizes):
    """A saying over sizes; rather one that lets many pages be."""
    if len(sizes) == 1 or source.random() < 0.25:
        i = source.randrange(len(sizes))
        most = max(source.randint(1, sizes[i]), source.randint(1, sizes[i]))
        return ("own", i, tuple(sorted(source.sample(range(sizes[i]), most))))
    i, j = sorted(source.sample(range(len(sizes)), 2))
    if source.random() < 0.4:
        fewest = min(sizes[i], sizes[j])
        most = source.randint(max(1, fewest - 1), fewest)
        firsts, seconds = source.sample(range(sizes[i]), most), source.sample(range(sizes[j]), most)
        return ("tied", i, j, tuple(sorted(zip(firsts, seconds))))
    return ("either", i, source.randrange(sizes[i]), j, source.randrange(sizes[j]))


def random_book(source, sizes, most):
    return (sizes, tuple(random_saying(source, sizes) for _ in range(source.randint(0, most))))


def small_books(source, many=500):
    """Books, each with its pages, gone through one by one; not every one has some."""
    for _ in range(many):
        book = random_book(source, random_sizes(source, 4), 8)
        yield book, lawful_pages(book)


def books_of_two_sayings():
    """All books of two sayings over small sizes, each with its pages; not every one has some."""
    for sizes in ((3,), (2, 2), (2, 3)):
        for sayings in itertools.product(all_sayings(sizes), repeat=2):
            yield (sizes, sayings), lawful_pages((sizes, sayings))


def tight_told(sizes, pages):
    """The tight book of just these pages, as [21] tells it."""
    sayings = []
    for i in range(len(sizes)):
        sayings.append(("own", i, tuple(sorted({page[i] for page in pages}))))
    for i, j in itertools.combinations(range(len(sizes)), 2):
        pairs = tuple(sorted({(page[i], page[j]) for page in pages}))
        match sort_of(pairs):
            case ("tied",):
                sayings.append(("tied", i, j, pairs))
            case ("either", a, b):
                sayings.append(("either", i, a, j, b))
            case sort:
                assert sort == ("free",)
    return (sizes, tuple(sayings))


def planted_book(source, sizes, many):
    """A book of many sayings that some page keeps, and such a page."""
    page = random_page(source, sizes)
    sayings = []
    while len(sayings) < many:
        saying = random_saying(source, sizes)
        if saying_kept(saying, page):
            sayings.append(saying)
    return (sizes, tuple(sayings)), page


# What is no book, with the error and its what, in the order in which they are asked.
WRONG_BOOKS = (
    (None, BadBook, -1),
    (3, BadBook, -1),
    ("ab", BadBook, -1),
    ((), BadBook, -1),
    (((3, 2),), BadBook, -1),
    (((3, 2), (), ()), BadBook, -1),
    (((3, 2), None), BadBook, -1),
    (((3, 2), 7), BadBook, -1),
    (((3, 2), "ab"), BadBook, -1),
    (((3, 2), (("own", 0, (0,)),) * 401), BadBook, -1),
    (((), (None,) * 401), BadBook, -1),
    ((None, None), BadBook, -1),
    (((), ()), BadSizes, -1),
    ((None, (None,)), BadSizes, -1),
    (("ab", ()), BadSizes, -1),
    (((2,) * 25, ()), BadSizes, -1),
    (((3, 7), (None,)), BadSizes, 1),
    (((True, 2), ()), BadSizes, 0),
    (((3, 2), (None,)), BadSaying, 0),
    (((3, 2), (("own", 0, (0,)), ("own", 2, (0,)))), BadSaying, 1),
    (((3, 2), (("own", 0, (3,)), None)), BadSaying, 0),
    (((3, 2), (("either", 0, 0, 1, 0), ("either", 1, 0, 0, 0))), BadSaying, 1),
    (((3, 2), (("tied", 0, 1, ((0, 0), (1, 0))),)), BadSaying, 0),
    (((3, 2), (("own", 0, (0,)),) * 399 + ("own",)), BadSaying, 399),
    (((1, 1), (("own", 0, (0,)), nested(47, 0))), BadSaying, 1),
)


# Books that no page keeps, for one reason or another.
NO_PAGE = (
    N,
    ((2, 2), (("own", 0, (0,)), ("own", 0, (1,)))),
    ((3, 3), (("tied", 0, 1, ((0, 0),)), ("tied", 0, 1, ((1, 1),)))),
    ((2, 2), (("either", 0, 0, 1, 0), ("own", 0, (1,)), ("own", 1, (1,)))),
)

# What is no pair of a setting and a worth of it over the sizes (3, 2).
WRONG_CELLS = (
    None, True, 0, 1, "ab", "00", (), (0,), (0, 0, 0), (2, 0), (-1, 0), (0, 3), (0, -1), (1, 2),
    (True, 0), (False, 0), (0, True), (0, False), (None, 0), (0, None), ("0", 0), (0, "0"), ((0,), 0),
    (0, (0,)), (10 ** 50, 0), (0, 10 ** 50), nested(50, 0), (0, nested(49, 0)),
)


def wrong_edits(sizes):
    """What is no edit over sizes, with what BadEdit tells of it."""
    most = len(sizes) - 1
    yield from ((thing, -1) for thing in (None, True, 0, -1, "ab", "", 10 ** 50))
    yield from ((thing, 0) for thing in (
        (None,), (0,), (0, 0), ("ab",), ((),), ((0,),), ((0, 0, 0),), ((most + 1, 0),), ((-1, 0),),
        ((0, sizes[0]),), ((0, -1),), ((0, True),), ((False, 0),), ((0, None),), ((None, 0),), nested(50, 0),
        (((0,), 0),), ((0, "0"),), ((10 ** 50, 0),), ((24, 0), (0, 0)), (None,) * 90000,
    ))
    yield from ((((0, 0), part), 1) for part in (None, (), (0, 0), (0, 1), (-1, 0), (most + 1, 0), nested(48, 0)))
    yield tuple((at, 0) for at in range(most + 1)) + ((most, 0),), most + 1
    if most:
        yield ((most, 0), (0, 0)), 1
        yield ((0, 0), (most, sizes[most])), 1


def wrong_pages(sizes):
    """What is no page over sizes, with what BadPage tells of it."""
    page = (0,) * len(sizes)
    yield from ((thing, -1) for thing in (None, True, 0, "0" * len(sizes), (), page[1:], page + (0,)))
    for at, many in enumerate(sizes):
        for worth in (many, -1, True, False, None, "0", (0,), 10 ** 50, nested(49, 0)):
            yield page[:at] + (worth,) + page[at + 1:], at
            yield page[:at] + (worth,) * (len(sizes) - at), at


def wrong_settings(sizes):
    """What is no setting of sizes."""
    return (len(sizes), -1, 24, True, False, None, "0", (), (0,), 10 ** 50, -(10 ** 50), nested(50, 0))


def tables_about(source, tables):
    """Tables, some writable and some not."""
    for _ in range(tables):
        if source.random() < 0.6:
            sizes = tuple(source.randint(2, 3) for _ in range(source.randint(2, 3)))
            pages = source.sample(all_pages(sizes), source.randint(3, 4 * len(sizes) - 4))
            yield (sizes, tuple(sorted(pages)))
            continue
        book = random_book(source, random_sizes(source, 3), 3)
        pages = lawful_pages(book)
        if 1 <= len(pages) <= 16:
            yield (book[0], tuple(pages))


def seeded(number):
    return random.Random(number)
