"""Deeds that are drawn, done at a store and at the second reading of one."""

from causeloops.errors import NotReady
from causeloops.stores import Store
from tests import oracle
from tests.oracle_stores import Shop


def is_ready(shop, client, site):
    return shop.play.is_possible(("visit", client, site))


def do_at_shop(shop, name, args):
    """What a deed must return, or NotReady if it is refused."""
    if name == "write":
        shop.do(("write",) + args[:2], args[2])
        return len(shop.worths) - 1
    if name == "settle":
        return shop.settle()
    event = ("apply",) + args if name == "apply" else ("visit",) + args[:2]
    if not shop.play.is_possible(event):
        return NotReady
    shop.do(event)
    if name == "read":
        return shop.got(*args)
    if name == "put":
        shop.do(("write", args[1], args[2]), args[3])
        shop.do(event)
        return len(shop.worths) - 1
    return None


def do_at_store(store, name, args):
    try:
        return getattr(store, name)(*args)
    except NotReady:
        return NotReady


def visits(placement):
    sites = oracle.sites_of(placement)
    return [(sites + at, site) for at, row in enumerate(placement[1]) for site in row]


def drawn_deed(shop, draw, writes):
    """A deed with values that are right, whether or not it is ready."""
    placement = shop.placement
    kept = [(site, x) for site, row in enumerate(placement[0]) for x in row]
    reads = [visit + (x,) for visit in visits(placement) for x in placement[0][visit[1]]]
    waiting = list(shop.play.missing())
    choices = []
    if kept and len(shop.worths) < writes:
        choices += [("write", kept)] * 3 + [("put", reads)] * 2
    choices += [("apply", waiting)] * 4 + [("visit", visits(placement))] + [("read", reads)] * 3
    choices += [("settle", [()])] * (draw.below(12) == 0)
    choices = [(name, values) for name, values in choices if values]
    if not choices:
        return "settle", ()
    name, values = choices[draw.below(len(choices))]
    args = values[draw.below(len(values))]
    if name in ("write", "put"):
        args += (draw.below(7) - 3 if draw.below(9) else 10 ** 9 - draw.below(2),)
    return name, args


def drawn_store(placement, plan, draw, length, writes=24, rows=60):
    """A store and its second reading, behind some deeds; at most so many rows."""
    store, shop = Store(placement, plan), Shop(placement, plan)
    for _ in range(length):
        if len(shop.rows) + 5 > rows:
            break
        name, args = drawn_deed(shop, draw, writes)
        if name == "settle" and len(shop.rows) + len(shop.play.missing()) > rows:
            break
        do_at_shop(shop, name, args)
        do_at_store(store, name, args)
    return store, shop
