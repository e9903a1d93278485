"""How near one folk is to another, by goings up and then down."""

from thronewalk.folk import born_by
from thronewalk.reach import reach_of
from thronewalk.steps import steps_of


def degrees(house, book, row, day, who):
    reach = reach_of(house, book, row, day)
    steps = {pair[0]: steps_of(house, book, row, day, pair[0]) for pair in reach}
    goings = downs_from(steps, ups_from(steps, who))
    return tuple(goings.get(folk, -1) for folk in range(born_by(house, day)))


def ups_from(steps, who):
    """The fewest goings up from one folk to each one whom they lead to."""
    goings = {who: 0} if who in steps else {}
    # A going up leads to a lesser number, so each count is the least when it is handed on.
    for child in range(who, -1, -1):
        if child in goings:
            for parent in steps:
                if child in steps[parent]:
                    keep_least(goings, parent, goings[child] + 1)
    return goings


def downs_from(steps, ups):
    """The fewest goings in all, when those up are followed by goings down."""
    goings = {folk: ups[folk] for folk in ups}
    for parent in sorted(steps):
        if parent in goings:
            for child in steps[parent]:
                keep_least(goings, child, goings[parent] + 1)
    return goings


def keep_least(goings, folk, many):
    goings[folk] = min(goings.get(folk, many), many)
