"""One beat, of values that are known to be good.

Those who come are counted by how many tries are behind theirs, never gone
through one by one: there may be very many of them.
"""

from comesback.settings import most_tokens


def step(setting, state, fresh):
    """Return what a beat tells: six numbers, and the state behind it."""
    work, room, patience, _, _, way, keeps, most, fuse = setting
    dead, queue, later, tokens, door = state
    coming, lost, tokens = at_door(most, tokens, later[0], fresh)
    free = 0 if door > 0 else room - dead - len(queue)
    queue, refused = enter(queue, free, coming)
    answered, wasted = take(work, way, dead, len(queue))
    queue, gone = grow_older(left_over(queue, way, answered), patience, len(coming))
    dead = dead - wasted + (sum(gone) if keeps else 0)
    failed = [refused[left] + gone[left] for left in range(len(coming))]
    # The index is how many tries are behind, so from 1 on these are the
    # tuple of later as it stands, with one try less behind each.
    later = later[1:] + (tuple(failed[1:]),)
    tokens = min(most_tokens(most), tokens + answered)
    door = next_door(fuse, door, sum(failed))
    behind = (dead, queue, later, tokens, door)
    return (sum(coming), answered, wasted, sum(refused), sum(gone), lost + failed[0], behind)


def at_door(most, tokens, again, fresh):
    """Return who stands at the door, how many found no token, and the tokens left."""
    if most is None:
        return [*again, fresh], 0, tokens
    coming = []
    lost = 0
    for many in again:
        paid = min(many, tokens)
        tokens = tokens - paid
        lost = lost + many - paid
        coming.append(paid)
    coming.append(fresh)
    return coming, lost, tokens


def enter(queue, free, coming):
    """Let in as many as are free; return the queue then, and who was refused."""
    refused = []
    for left, many in enumerate(coming):
        entered = min(many, free)
        free = free - entered
        queue = queue + ((left, 0),) * entered
        refused.append(many - entered)
    return queue, refused


def take(work, way, dead, waiting):
    """Return how many are answered, and how many dead ones are wasted work."""
    if way == "oldest":
        wasted = min(work, dead)
        return min(work - wasted, waiting), wasted
    answered = min(work, waiting)
    return answered, min(work - answered, dead)


def left_over(queue, way, answered):
    """Return the queue without those that are answered."""
    if way == "oldest":
        return queue[answered:]
    return queue[:len(queue) - answered]


def grow_older(queue, patience, tries):
    """Return the queue one beat later, and who gave up, by the tries behind."""
    staying = []
    gone = [0] * tries
    for left, age in queue:
        if age + 1 < patience:
            staying.append((left, age + 1))
        else:
            gone[left] = gone[left] + 1
    return tuple(staying), gone


def next_door(fuse, door, failed):
    """Return for how many beats the door is shut behind this one."""
    if door > 0:
        return door - 1
    if fuse is not None and failed >= fuse[0]:
        return fuse[1]
    return 0
