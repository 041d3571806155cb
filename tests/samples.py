"""Webs, plans and values that several tests use."""

import random

from everframe.errors import InvalidCertificate
from everframe.plans import Plan
from everframe.webs import Web

E1 = Web(
    ("a", 0, (("make", "r"),)),
    ("b", 0, (("read", "r", 0),)),
    ("c", 0, (("make", "p"),)),
    ("d", 1, (("read", "r", 0),)),
    ("e", 1, (("make", "s"),)),
    ("f", 1, (("read", "p", 0), ("read", "s", 0))),
)
P1 = Plan(E1, waits=(("d", "a", 0), ("f", "c", 0), ("a", "f", 1)))
E2 = Web(
    ("w", 0, (("make", "h"),)),
    ("v", 1, (("read", "h", 1),)),
    ("t", 1, (("make", "x"),)),
    ("y", 1, (("read", "x", 0),)),
)
G2 = ((2, (("h", 0), ("x", 1))),)
P2 = Plan(E2, waits=(("v", "w", 1), ("w", "y", 1)), sharing=G2)
C = Web(("w", 0, (("carry", "h"),)), ("v", 1, (("read", "h", 1),)))
U = Web(
    ("m", 0, (("make", "b"),)),
    ("x", 0, (("read", "b", 0),)),
    ("u", 1, (("update", "b"),)),
    ("z", 1, (("read", "b", 2),)),
)

# values that are no integer within any bounds, no name, no tuple of the right form
ODD = (
    None, True, False, -1, 5, 10 ** 39, -(10 ** 39), "", "A", "a b", "abcdefghi", "1", "a" * 4000,
    (), ("a",), [], ["a"], {}, {"a": 1}, (((1,),),), [[[]]], ["a", 0, ()], ["make", "r"], ("a", "b"),
)


def bare(name, queue):
    """A job without uses."""
    return (name, queue, ())


def many_jobs(count, queues=1):
    """This many jobs without uses."""
    return [bare("j" + chr(97 + at), at % queues) for at in range(count)]


def caught(call, *parts, **named):
    """The class and the attributes of the error that a call raises, None if there is none."""
    try:
        call(*parts, **named)
    except (ValueError, LookupError, RuntimeError, OverflowError) as error:
        return (error.__class__.__name__, *vars(error).values())
    return None


def random_web(rng, jobs=None, buffers=None, optional=True):
    """A web with random uses."""
    count = jobs or rng.randint(1, 6)
    names = rng.sample([a + b for a in "abcdefghi" for b in "xyz"], count)
    uses = [[] for _ in names]
    if buffers is None:
        buffers = rng.randint(0, 4)
    for buffer in rng.sample("klmnopqrst", buffers):
        _use(rng, uses, buffer, optional)
    sizes = {use[1]: rng.randint(1, 3) for row in uses for use in row if rng.random() < 0.2}
    return Web(*[(name, rng.randint(0, 3), tuple(row)) for name, row in zip(names, uses)], sizes=sizes)


def _use(rng, uses, buffer, optional):
    free = [at for at, row in enumerate(uses) if not any(use[0] in ("keep", "carry") for use in row)]
    if not free:
        return
    maker = rng.choice(free)
    words = ["make"]
    if optional and not any(use[0] in ("make", "update") for use in uses[maker]):
        words += ["keep", "carry"]
    uses[maker].append((rng.choice(words), buffer))
    read = False
    for at, row in enumerate(uses):
        if at > maker and rng.random() < 0.3 and not any(use[0] in ("keep", "carry") for use in row):
            row.append(("update", buffer))
            read = True
        elif at > maker and rng.random() < 0.4:
            row.append(("read", buffer, 0))
            read = True
        for age in (1, 2, 3):
            if rng.random() < 0.1:
                row.append(("read", buffer, age))
                read = True
    if not read:
        rng.choice(uses).append(("read", buffer, rng.randint(1, 3)))


def random_plan(rng, web=None, waits=None):
    """A plan with random rows, waits, depth and sharing; it may stand still."""
    web = web or random_web(rng)
    rows = {queue: row_of(web, queue) for queue in web.queues if rng.random() < 0.3}
    for row in rows.values():
        rng.shuffle(row)
    if waits is None:
        waits = rng.randint(0, 6)
    chosen = [
        (rng.choice(web.jobs), rng.choice(web.jobs), rng.choice((0, 1, 1, 2, 3, 4)))
        for _ in range(waits)
    ]
    depth = rng.choice((None, None, 1, 2, 3, 4))
    return Plan(web, rows=rows, waits=chosen, depth=depth, sharing=random_sharing(rng, web))


def row_of(web, queue):
    """The jobs of a queue in list order."""
    return [job for job in web.jobs if web.queue_of(job) == queue]


def random_sharing(rng, web):
    """A random sharing of the web, in any order."""
    groups = []
    for size in set(web.sizes.values()):
        buffers = [buffer for buffer in web.buffers if web.size(buffer) == size]
        rng.shuffle(buffers)
        while buffers:
            cut = rng.randint(1, len(buffers))
            count = rng.randint(1, 4)
            groups.append((count, tuple((buffer, rng.randrange(count)) for buffer in buffers[:cut])))
            buffers = buffers[cut:]
    rng.shuffle(groups)
    return tuple(groups)


def rng_of(seed):
    """Random numbers that are the same in each run of the tests."""
    return random.Random(seed)


def told(check, *parts):
    """What a check says: True, or the reason and the place of the certificate's fault."""
    try:
        return check(*parts)
    except InvalidCertificate as error:
        return (error.reason, error.where)
