"""Trees and rings: taking ears off lines, and whether ties make a tree that holds each name together."""

from askwithin.terms import names_of


def shared(lines, k):
    elsewhere = names_of(lines[:k] + lines[k + 1:])
    return [name for name in names_of((lines[k],)) if name in elsewhere]


def parent_of(lines, left, k):
    # Names that line k shares with lines taken off alone don't count any more.
    wanted = shared(tuple([lines[j] for j in left]), left.index(k))
    for j in left:
        if j != k and all([name in lines[j][1] for name in wanted]):
            return j
    return None


def first_ear(lines, left):
    for k in left:
        parent = parent_of(lines, left, k)
        if parent is not None:
            return (k, parent)
    return None


def ears(lines):
    taken = []
    left = list(range(len(lines)))
    ear = first_ear(lines, left)
    while ear is not None:
        taken.append(ear)
        left.remove(ear[0])
        ear = first_ear(lines, left)
    return (taken, left)


def ring(lines):
    rest = ears(lines)[1]
    return rest if len(rest) > 1 else []


def are_tied(members, ties):
    group = dict([(k, k) for k in members])
    for one, other in ties:
        # A tie with a line that is no member leads out of them, so it ties no two of them.
        if one in group and other in group:
            gone = group[other]
            for k in members:
                group[k] = group[one] if group[k] == gone else group[k]
    return len(set([group[k] for k in members])) <= 1


def standing(lines, name):
    return [k for k, line in enumerate(lines) if name in line[1]]


def is_tree(lines, ties):
    if len(ties) != max(0, len(lines) - 1) or not are_tied(list(range(len(lines))), ties):
        return False
    return all([are_tied(standing(lines, name), ties) for name in names_of(lines)])
