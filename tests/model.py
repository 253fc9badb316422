"""A slow model of a beat, asker by asker, and values to try the program with.

It follows the steps of the document one after the other and shares nothing
with the package, so that the two check each other.
"""

import itertools

NAMES = ("work", "room", "patience", "tries", "wait", "way", "dead", "tokens", "fuse")
PLAIN = (1, 3, 2, 2, 1, "oldest", False, None, None)
FUSES = (None,) + tuple(itertools.product((1, 2, 3), (1, 2, 3)))
RANGES = (
    (1, 2, 3),
    (1, 2, 3, 4, 5),
    (1, 2, 3, 4),
    (1, 2, 3),
    (1, 2, 3),
    ("oldest", "newest"),
    (True, False),
    (None, 0, 1, 2, 3, 4),
    FUSES,
)


def setting_with(**parts):
    """The plain setting with these parts put into it."""
    return tuple(parts.get(name, plain) for name, plain in zip(NAMES, PLAIN))


def all_settings():
    return itertools.product(*RANGES)


def some_setting(dice):
    return tuple(dice.choice(values) for values in RANGES)


def some_plain_setting(dice):
    """Any setting, half of them without tokens and half of them without a fuse."""
    setting = some_setting(dice)
    tokens, fuse = (dice.choice((None, part)) for part in setting[7:])
    return setting[:7] + (tokens, fuse)


def some_state(dice, setting):
    """Any state of the setting, not only one that its beats lead to."""
    _, room, patience, tries, wait, _, keeps, tokens, fuse = setting
    dead = dice.randint(0, room) if keeps else 0
    waiting = dice.randint(0, room - dead) if patience > 1 else 0
    ages = sorted((dice.randint(1, patience - 1) for _ in range(waiting)), reverse=True)
    queue = tuple((dice.randint(0, tries - 1), age) for age in ages)
    later = tuple(tuple(dice.randint(0, 4) for _ in range(tries - 1)) for _ in range(wait))
    return (
        dead,
        queue,
        later,
        dice.randint(0, tokens or 0),
        dice.randint(0, fuse[1]) if fuse else 0,
    )


def deep(depth, kind):
    """A value nested so deep."""
    made = 5
    for _ in range(depth):
        made = {"inner": made} if kind is dict else kind([made])
    return made


def strange_values():
    """Values that are no setting, state, row or number at all."""
    return [
        None, True, False, 0, 1, -1, 10 ** 12 - 1, -10 ** 12 + 1, "", "1", "oldest",
        (), (None,), [], [1], {}, {"work": 1}, {1: 2}, ((),), ([],), ({},),
        deep(40, tuple), deep(40, list), deep(40, dict), ("a",) * 9, ("a",) * 5,
        (None,) * 9, (None,) * 5, ({},) * 9, ([],) * 5, (True,) * 9, (True,) * 5,
        (deep(39, list),) * 9, (deep(39, list),) * 5,
    ]


def kinds_of(value):
    """The value with the exact class of each of its parts."""
    if isinstance(value, tuple):
        return (type(value),) + tuple(kinds_of(part) for part in value)
    return (type(value), value)


def slow_beat(setting, state, fresh):
    """What the beat tells, worked out asker by asker."""
    work, room, patience, tries, wait, way, keeps, most, fuse = setting
    dead, queue, later, tokens, door = state
    lost = given_up = answered = wasted = 0
    # (1) who comes
    door_side = []
    for left, many in enumerate(later[0]):
        for _ in range(many):
            if most is None:
                door_side.append(left)
            elif tokens > 0:
                tokens -= 1
                door_side.append(left)
            else:
                lost += 1
    door_side.extend([tries - 1] * fresh)
    # (2) who is let in
    in_queue = [[left, age, False] for left, age in queue]
    refused = []
    for left in door_side:
        if door == 0 and dead + len(in_queue) < room:
            in_queue.append([left, 0, True])
        else:
            refused.append(left)
    # (3) who is taken
    for _ in range(work):
        if way == "oldest" and dead > 0:
            dead -= 1
            wasted += 1
        elif in_queue:
            in_queue.pop(0 if way == "oldest" else -1)
            answered += 1
        elif dead > 0:
            dead -= 1
            wasted += 1
    # (4) who waits on, and who gives up
    failing = list(refused)
    staying = []
    for left, age, new in in_queue:
        age = 1 if new else age + 1
        if age == patience:
            given_up += 1
            failing.append(left)
            dead += 1 if keeps else 0
        else:
            staying.append((left, age))
    # (5) who asks again
    again = [0] * (tries - 1)
    for left in failing:
        if left == 0:
            lost += 1
        else:
            again[left - 1] += 1
    # (6) tokens
    tokens = 0 if most is None else min(most, tokens + answered)
    # (7) the door
    if door > 0:
        door -= 1
    elif fuse is not None and len(refused) + given_up >= fuse[0]:
        door = fuse[1]
    then = (dead, tuple(staying), tuple(list(later)[1:] + [tuple(again)]), tokens, door)
    return (len(door_side), answered, wasted, len(refused), given_up, lost, then)
