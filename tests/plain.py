"""Plain searches by the words of the document alone, for short logs: what the program's results are compared with."""

import itertools

from tests.helping import kinds_in, put_together


def squares_of(table):
    """The own-square kinds of a table, ascending."""
    return sorted({one for one, other in table if one == other and table[(one, one)] == one})


def points_lists(many):
    """All ascending lists of two points or more of a log of so many deeds."""
    return [list(points) for number in range(2, many + 2) for points in itertools.combinations(range(many + 1), number)]


def rows_in(table, row):
    """All rows of stretches of a row of kinds."""
    return [(kind, points) for kind in squares_of(table) for points in points_lists(len(row))
            if all(put_together(table, row[one:other]) == kind for one, other in zip(points, points[1:]))]


def most_in(table, row):
    """The greatest number of a row of stretches of a row of kinds."""
    return max([len(points) - 1 for _, points in rows_in(table, row)], default=0)


def cuts(first, last):
    """All ways to cut what is between two points into two stretches or more, as lists of points."""
    inner = range(first + 1, last)
    return [[first, *chosen, last] for number in range(1, last - first)
            for chosen in itertools.combinations(inner, number)]


def all_trees(setting, log):
    """All trees with a log that is not empty."""
    table = setting.kinds().table()
    squares = squares_of(table)
    known = {}

    def over(first, last):
        if last - first == 1:
            return [log[first]]
        if (first, last) not in known:
            found = [("pair", one, other) for cut in range(first + 1, last)
                     for one in over(first, cut) for other in over(cut, last)]
            kind = put_together(table, kinds_in(setting, log[first:last]))
            for points in cuts(first, last) if kind in squares else []:
                ends = list(zip(points, points[1:]))
                if all(put_together(table, kinds_in(setting, log[a:b])) == kind for a, b in ends):
                    for parts in itertools.product(*[over(a, b) for a, b in ends]):
                        found.append(("run", kind, list(parts)))
            known[(first, last)] = found
        return known[(first, last)]

    return over(0, len(log))


def log_in(tree):
    """The deeds of a tree, from the first to the last one."""
    if isinstance(tree, str):
        return [tree]
    parts = tree[2] if tree[0] == "run" else tree[1:]
    return [deed for part in parts for deed in log_in(part)]


def height_in(tree):
    if isinstance(tree, str):
        return 0
    return 1 + max(height_in(part) for part in (tree[2] if tree[0] == "run" else tree[1:]))


def is_sound(setting, value):
    """Whether any object is a tree."""
    table = setting.kinds().table()
    if isinstance(value, str):
        return value in setting.deeds()
    if not isinstance(value, tuple) or len(value) != 3:
        return False
    if value[0] == "pair":
        return is_sound(setting, value[1]) and is_sound(setting, value[2])
    if value[0] != "run" or value[1] not in squares_of(table):
        return False
    if not isinstance(value[2], list) or len(value[2]) < 2 or not all(is_sound(setting, part) for part in value[2]):
        return False
    return all(put_together(table, kinds_in(setting, log_in(part))) == value[1] for part in value[2])


def knots_in(tree, first=0):
    """All (first, last, height, tree) of the knots of a tree, each ahead of its parts."""
    found = [(first, first + len(log_in(tree)), height_in(tree), tree)]
    if not isinstance(tree, str):
        for part in tree[2] if tree[0] == "run" else tree[1:]:
            found += knots_in(part, first)
            first += len(log_in(part))
    return found


def turned_tree(tree):
    """The tree whose parts, through and through, are turned about."""
    if isinstance(tree, str):
        return tree
    if tree[0] == "pair":
        return ("pair", turned_tree(tree[2]), turned_tree(tree[1]))
    return ("run", tree[1], [turned_tree(part) for part in tree[2][::-1]])


def tree_with(tree, place, deed):
    """The same parts with another deed at a place."""
    if isinstance(tree, str):
        return deed if place == 0 else tree
    parts = []
    for part in tree[2] if tree[0] == "run" else tree[1:]:
        parts.append(tree_with(part, place, deed))
        place -= len(log_in(part))
    return ("pair", *parts) if tree[0] == "pair" else ("run", tree[1], parts)


def single_looks(setting, tree):
    """All tuples (first, last, kind) that looks may have."""
    table = setting.kinds().table()
    log = log_in(tree)
    found = []
    for first, last, _, knot in knots_in(tree):
        found.append((first, last, put_together(table, kinds_in(setting, log[first:last]))))
        if not isinstance(knot, str) and knot[0] == "run":
            point = first
            points = [first]
            for part in knot[2]:
                point += len(log_in(part))
                points.append(point)
            found += [(one, other, knot[1]) for one, other in itertools.combinations(points, 2)]
    return sorted(set(found))


def all_looks(single, first, last):
    """All looks at a stretch."""
    if first == last:
        return [[]]
    return [[look] + rest for look in single if look[0] == first and look[1] <= last
            for rest in all_looks(single, look[1], last)]


def are_bounded(setting, log, counts):
    """Whether counts of all stretches of a log are heights."""
    table = setting.kinds().table()
    squares = squares_of(table)
    for first, last in itertools.combinations(range(len(log) + 1), 2):
        most = [0] if last - first == 1 else []
        most += [1 + max(counts[(first, cut)], counts[(cut, last)]) for cut in range(first + 1, last)]
        kind = put_together(table, kinds_in(setting, log[first:last]))
        for points in cuts(first, last) if kind in squares else []:
            ends = list(zip(points, points[1:]))
            if all(put_together(table, kinds_in(setting, log[a:b])) == kind for a, b in ends):
                most.append(1 + max(counts[end] for end in ends))
        if counts[(first, last)] > min(most):
            return False
    return True


def doubled(setting, log):
    """All doublings of a log, as a set of tuples."""
    table = setting.kinds().table()
    return {tuple(log[:last] + log[first:last] + log[last:])
            for first, last in itertools.combinations(range(len(log) + 1), 2)
            if put_together(table, kinds_in(setting, log[first:last])) in setting.twice()}


def halved(setting, log):
    """All logs of which a log is a doubling, as a set of tuples."""
    shorter = {tuple(log[:first] + log[last:]) for first, last in itertools.combinations(range(len(log) + 1), 2)}
    return {one for one in shorter if tuple(log) in doubled(setting, list(one))}


def squeezed_ways(setting, log):
    """All squeezed logs to which halvings lead from a log, as tuples, and the set of the numbers of halvings."""
    known = {}

    def ways(one):
        if one not in known:
            shorter = halved(setting, list(one))
            if not shorter:
                known[one] = ({one}, {0})
            else:
                ends = [ways(other) for other in shorter]
                known[one] = (set().union(*[end for end, _ in ends]),
                              {number + 1 for _, numbers in ends for number in numbers})
        return known[one]

    return ways(tuple(log))


def alike_within(setting, log, most):
    """All logs, as tuples, to which chains lead from a log, no log on the way longer than so many deeds."""
    found = {tuple(log)}
    waiting = [tuple(log)]
    while waiting:
        one = list(waiting.pop())
        further = halved(setting, one)
        further |= {other for other in doubled(setting, one) if len(other) <= most}
        for other in further - found:
            found.add(other)
            waiting.append(other)
    return found


def plain_steps(setting, log):
    """The steps of a log of a plain setting."""
    table = setting.kinds().table()
    squares = squares_of(table)
    if len(squares) ** 2 == len(table):
        return list(log)
    row = kinds_in(setting, log)
    return [(put_together(table, squares + row[:place]), deed) for place, deed in enumerate(log)]


def ahead_of(steps):
    """What is ahead of a list of steps that is not empty."""
    return max([steps[:place] for place in range(len(steps)) if steps[place] not in steps[:place]], key=len)


def behind_of(steps):
    """What is behind a list of steps that is not empty."""
    return ahead_of(steps[::-1])[::-1]


def are_same(steps, other):
    """Whether two lists of steps are same, by the words."""
    if not steps or not other:
        return steps == other
    ahead, more_ahead = ahead_of(steps), ahead_of(other)
    after, more_after = behind_of(steps), behind_of(other)
    return (set(steps) == set(other) and steps[len(ahead)] == other[len(more_ahead)] and are_same(ahead, more_ahead)
            and steps[-len(after) - 1] == other[-len(more_after) - 1] and are_same(after, more_after))


def differences(steps, other, deepest):
    """All differences of two lists of steps of at most so many turns, as tuples of a tuple of turns and a step."""
    found = {((), step) for step in set(steps) ^ set(other)}
    if steps and other and deepest > 0:
        for turn, to in (("ahead", ahead_of), ("behind", behind_of)):
            found |= {((turn, *turns), step) for turns, step in differences(to(steps), to(other), deepest - 1)}
    return found


def ways_through(setting, moves):
    """For each kind, and each tuple of states to which some log of it leads from the states: a shortest such log."""
    table = setting.kinds().table()
    deeds = setting.deeds()
    states = sorted(moves)
    found = {}
    level = [(deeds[deed], tuple(moves[state][deed] for state in states), [deed]) for deed in sorted(deeds)]
    while level:
        following = []
        for kind, led, log in level:
            if (kind, led) not in found:
                found[(kind, led)] = log
                for deed in sorted(deeds):
                    following.append((table[(kind, deeds[deed])], tuple(moves[state][deed] for state in led),
                                      log + [deed]))
        level = following
    return found


def breaking_ways(setting, moves):
    """For each kind, where there is one, the least length of a log of it that leads elsewhere done twice."""
    states = sorted(moves)
    least = {}
    for (kind, led), log in ways_through(setting, moves).items():
        if any(led[states.index(state)] != state for state in led):
            least[kind] = min(least.get(kind, len(log)), len(log))
    return least
