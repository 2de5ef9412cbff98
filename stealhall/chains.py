"""Levels and chains of a run's steps."""

from stealhall.tasks import STARTED


def levels(web):
    """Tell the level of each step in the order in which the web tells them."""
    found = levels_by_step(web)
    return [found[node[:2]] for node in web.nodes()]


def levels_by_step(web):
    """Tell the level of each step by its path and its number."""
    found = {}
    # The web tells each step behind those that it comes of, so their levels are there.
    for node in web.nodes():
        sources = [found[source] for source in web.comes_of(node[0], node[1])]
        found[node[:2]] = max(sources, default=0) + 1
    return found


def longest(web):
    """Tell a longest chain."""
    found = levels_by_step(web)
    chain = [highest(list(found), found)]
    sources = web.comes_of(chain[0][0], chain[0][1])
    while sources:
        chain.append(highest(sources, found))
        sources = web.comes_of(chain[-1][0], chain[-1][1])
    return chain[::-1]


def highest(steps, found):
    """Tell a step of the greatest level among these."""
    return max(steps, key=lambda step: found[step])


def height(web):
    """Tell the greatest number of steps that started a task on any one chain."""
    starts = {}
    for node in web.nodes():
        sources = [starts[source] for source in web.comes_of(node[0], node[1])]
        starts[node[:2]] = max(sources, default=0) + (0 if node[STARTED] is None else 1)
    return max([starts[step] for step in starts])
