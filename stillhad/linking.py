"""The most of a wiring with tariffs."""

from stillhad.arithmetic import ENDLESS, total
from stillhad.linkplans import link_plan, need_links


def linked_most(wiring, tariffs, weights, fill):
    """The least that a row that links tells at the fill, endless if there is none."""
    need_links(wiring, tariffs, weights, fill)
    paper = link_plan(wiring, tariffs, weights, fill)[0]
    return ENDLESS if paper is None else total(paper[0], fill)
