"""What several tests share: exact looks at errors and answers, and things to be judged."""

import random

from onlyforced.errors import Refused

# The law of DOC.md [8]: the state is draft, or the lock is on.
T = ((3, 2), ((0, 0), (0, 1), (1, 1), (2, 1)))

DEEP = 50


def nested(depth, core):
    """The core within as many tuples as depth tells."""
    for _ in range(depth):
        core = (core,)
    return core


ATOMS = (
    None, True, False, 0, 1, 2, -1, 6, 7, 24, 25, 10 ** 40, -(10 ** 40), "", "a", "ab", "free",
)

THINGS = ATOMS + (
    (), (0,), (1,), (True,), (None,), ("a",), (1, 1), (2, 2), (0, 0), ("a", "b"), ((),), ((), ()),
    (0, 1), (1, 0), (True, 1), (1, True), (False, 0), (None, None), ((0, 0),), ((0, 1), (1, 0)),
    ((2, 2), ()), ((2, 2), ((0, 0),)), ((2, 2), ((True, False),)), ((2, 2), "ab"), ("ab", ((0, 0),)),
    nested(DEEP, 0), nested(DEEP, None), nested(DEEP, "a"), (2, nested(DEEP - 1, 1)),
    ((2, 2), (nested(DEEP - 2, 1),)), (nested(DEEP - 1, ()), nested(DEEP - 1, ())),
)


def refused(case, error, what, call, *args, **named):
    """Expect a call to raise just this error, with just this what."""
    with case.assertRaises(Refused) as caught:
        call(*args, **named)
    case.assertIs(type(caught.exception), error)
    case.assertIs(type(caught.exception.what), type(what))
    case.assertEqual(caught.exception.what, what)


def exactly(case, answer, wanted):
    """Expect an answer of the same parts and of the same kinds: True is not 1 here."""
    case.assertEqual(repr(answer), repr(wanted))


def random_thing(source, depth):
    """Some value of tuples, texts, numbers, bools and None."""
    if depth == 0 or source.random() < 0.3:
        return source.choice(ATOMS)
    if source.random() < 0.1:
        return nested(source.randint(1, DEEP - 10), source.choice(ATOMS))
    return tuple(random_thing(source, depth - 1) for _ in range(source.randint(0, 4)))


def spoilt(source, thing):
    """A thing with one place in it changed."""
    if not isinstance(thing, tuple) or not thing or source.random() < 0.15:
        return random_thing(source, 2)
    at = source.randrange(len(thing))
    way = source.random()
    if way < 0.1:
        return thing[:at] + thing[at + 1:]
    if way < 0.2:
        return thing[:at] + (thing[at],) + thing[at:]
    if way < 0.3:
        return thing[::-1]
    return thing[:at] + (spoilt(source, thing[at]),) + thing[at + 1:]


def random_sizes(source, most):
    return tuple(source.randint(1, 4) for _ in range(source.randint(1, most)))


def random_page(source, sizes):
    return tuple(source.randrange(many) for many in sizes)


def random_edit(source, sizes):
    told = [at for at in range(len(sizes)) if source.random() < 0.4]
    return tuple((at, source.randrange(sizes[at])) for at in told)


def random_table(source, most_settings=4, most_pages=12):
    sizes = random_sizes(source, most_settings)
    many = source.randint(1, most_pages)
    return (sizes, tuple(sorted({random_page(source, sizes) for _ in range(many)})))


def seeded(number):
    return random.Random(number)
