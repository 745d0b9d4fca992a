"""Paths: the least choices, level by level, that lead to a goal.

A goal is a function that returns for each set the mask of the choices that
reach it from there.
"""


def least_choice(mask):
    """Return the least choice in a mask that has one."""
    choice = 0
    while not (mask >> choice) & 1:
        choice += 1
    return choice


def sets_behind(steps, layer, seen):
    """Return the sets that are first come to from those of a layer, and add them to those seen."""
    found = []
    for fallen in layer:
        for behind in steps.sets_from(fallen):
            if behind not in seen:
                seen[behind] = True
                found.append(behind)
    return found


def layers_to(steps, goal):
    """Return the sets that are first come to at level 0, 1, .. up to the first level with a goal.

    A set that was there at a lower level is of no use: it would have reached
    the goal earlier, and so would those behind it. None if no set does.
    """
    layers = [[0]]
    seen = {0: True}
    while layers[-1]:
        if any([goal(fallen) for fallen in layers[-1]]):
            return layers
        layers.append(sets_behind(steps, layers[-1], seen))
    return None


def ways_to(steps, layer, ways):
    """Return the dict from the sets of a layer to their least choices that lead to sets with ways."""
    found = {}
    for fallen in layer:
        choices = [choice for choice, behind in enumerate(steps.sets_from(fallen)) if behind in ways]
        if choices:
            found[fallen] = choices[0]
    return found


def choices_to(steps, goal):
    """Return the fewest choices that reach a goal, of these the least ones level by level; None if none do."""
    layers = layers_to(steps, goal)
    if layers is None:
        return None
    masks = {fallen: goal(fallen) for fallen in layers[-1]}
    levels = [{fallen: least_choice(masks[fallen]) for fallen in masks if masks[fallen]}]
    for layer in layers[-2::-1]:
        levels.append(ways_to(steps, layer, levels[-1]))
    choices = []
    fallen = 0
    for ways in levels[::-1]:
        choices.append(ways[fallen])
        fallen = steps.sets_from(fallen)[ways[fallen]]
    return choices
