"""How near one folk is to another, by goings up and then down."""

from thronewalk.folk import born_by, parents_of
from thronewalk.reach import parents_by
from thronewalk.steps import all_steps


def degrees(house, book, row, day, who):
    steps = all_steps(house, book, row, day)
    reached = parents_by(house, row, day, steps)
    ups = ups_from(house, steps, reached, who)
    goings = downs_from(steps, reached, ups)
    return tuple(goings.get(folk, -1) for folk in range(born_by(house, day)))


def ups_from(house, steps, reached, who):
    """The fewest goings up from one folk to each one whom they lead to."""
    goings = {who: 0} if who in reached else {}
    # A going up leads to a lesser number, so each count is the least when it is handed on.
    for child in range(who, -1, -1):
        if child in goings:
            for parent in parents_of(house, child):
                if parent in reached and child in steps[parent]:
                    keep_least(goings, parent, goings[child] + 1)
    return goings


def downs_from(steps, reached, ups):
    """The fewest goings in all, when those up are followed by goings down."""
    goings = {folk: ups[folk] for folk in ups}
    for parent in sorted(reached):
        if parent in goings:
            for child in steps[parent]:
                keep_least(goings, child, goings[parent] + 1)
    return goings


def keep_least(goings, folk, many):
    goings[folk] = min(goings.get(folk, many), many)
