"""What modules make: goals at the outs from amounts at the ins."""

from stillhad.followpapers import follow_paper, lets_follow
from stillhad.following import follows, stretch_of
from stillhad.modules import goal_fill, module_fill


def makes(module, amounts, goal):
    """Whether the module makes the goal from the amounts."""
    fill = module_fill(module, amounts)
    return follows(module[0], fill, goal_fill(module, goal))


def making_paper(module, amounts, goal):
    """Any paper of it that the goal at the outs follows from the amounts, or of it that it does not."""
    fill = module_fill(module, amounts)
    return follow_paper(module[0], fill, goal_fill(module, goal))


def lets_making(module, amounts, goal, thing):
    """Check such a paper; whether it is one of it that the goal follows."""
    fill = module_fill(module, amounts)
    return lets_follow(module[0], fill, goal_fill(module, goal), thing)


def making_stretch(module, amounts, goal):
    """The greatest quotient such that the module makes the goal times it, endless if there is none."""
    fill = module_fill(module, amounts)
    return stretch_of(module[0], fill, goal_fill(module, goal))
