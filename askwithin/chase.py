"""The chase: adding to an alternative's lines, step by step, what the rules want."""

from askwithin.rules import picked
from askwithin.terms import is_whole, once, put_in, put_in_lines

MOST_LINES_THERE = 5
MOST_PUTS = 16
PARTS = {"clash": 5, "same": 5, "put": 3}


def meet(rule, line, other):
    if line[0] != rule[1] or other[0] != rule[1]:
        return False
    return picked(line[1], rule[2]) == picked(other[1], rule[2])


def unlike(line, other):
    return [column for column, term in enumerate(line[1]) if term != other[1][column]]


def word_of(term, other):
    return "same" if isinstance(term, str) or isinstance(other, str) else "clash"


def step_of(lines, number, i, j, column):
    return (word_of(lines[i][1][column], lines[j][1][column]), number, i, j, column)


def due_by_key(lines, number, rule):
    for i, line in enumerate(lines):
        for j in range(i + 1, len(lines)):
            columns = unlike(line, lines[j]) if meet(rule, line, lines[j]) else []
            if len(columns) > 0:
                return step_of(lines, number, i, j, columns[0])
    return None


def points_to_one(lines, rule, line):
    wanted = picked(line[1], rule[2])
    return any([other[0] == rule[3] and picked(other[1], rule[4]) == wanted for other in lines])


def wants_put(lines, rule, line):
    return rule[0] == "points" and rule[1] == line[0] and not points_to_one(lines, rule, line)


def due_put(lines, rules):
    for i, line in enumerate(lines):
        for number, rule in enumerate(rules):
            if wants_put(lines, rule, line):
                return ("put", number, i)
    return None


def due(alternative, rules):
    for number, rule in enumerate(rules):
        step = due_by_key(alternative[1], number, rule) if rule[0] == "key" else None
        if step is not None:
            return step
    return due_put(alternative[1], rules)


def is_step(thing):
    # A thing in the word's place may be of a kind that can't be compared.
    if not isinstance(thing, tuple) or len(thing) == 0 or not isinstance(thing[0], str):
        return False
    if thing[0] not in PARTS or len(thing) != PARTS[thing[0]]:
        return False
    return all([is_whole(number) and number >= 0 for number in thing[1:]])


def is_right_key_step(lines, rule, step):
    i = step[2]
    j = step[3]
    if rule[0] != "key" or not i < j < len(lines) or not meet(rule, lines[i], lines[j]):
        return False
    return step[4] in unlike(lines[i], lines[j]) and step == step_of(lines, step[1], i, j, step[4])


def is_right(lines, step, rules):
    if not is_step(step) or step[1] >= len(rules):
        return False
    rule = rules[step[1]]
    if step[0] == "put":
        return step[2] < len(lines) and wants_put(lines, rule, lines[step[2]])
    return is_right_key_step(lines, rule, step)


def behind_same(alternative, term, other):
    # Not both are numbers here, so the one that becomes the other is a name.
    known = {other: term} if isinstance(other, str) else {term: other}
    return (put_in(alternative[0], known), once(put_in_lines(alternative[1], known)))


def new_names(alternative, many):
    taken = dict([(term, True) for term in alternative[0]])
    for line in alternative[1]:
        taken.update(dict([(term, True) for term in line[1]]))
    # Of so many names at most as many as are taken aren't new, so there are enough.
    names = [f"n{number}" for number in range(1, len(taken) + many + 1)]
    return [name for name in names if name not in taken][:many]


def behind_put(alternative, rule, line):
    terms = dict(zip(rule[4], picked(line[1], rule[2])))
    free = [column for column in range(rule[5]) if column not in terms]
    terms.update(dict(zip(free, new_names(alternative, len(free)))))
    added = (rule[3], tuple([terms[column] for column in range(rule[5])]))
    return (alternative[0], alternative[1] + (added,))


def behind(alternative, step, rules):
    lines = alternative[1]
    if not is_right(lines, step, rules):
        return None
    if step[0] == "clash":
        return alternative
    if step[0] == "put":
        return behind_put(alternative, rules[step[1]], lines[step[2]])
    return behind_same(alternative, lines[step[2]][1][step[4]], lines[step[3]][1][step[4]])


def is_past(alternative, steps, step, rules):
    if step[0] != "put":
        return False
    other = rules[step[1]][3]
    there = [line for line in alternative[1] if line[0] == other]
    puts = [taken for taken in steps if taken[0] == "put"]
    return len(there) >= MOST_LINES_THERE or len(puts) >= MOST_PUTS


def chase(alternative, rules):
    stands = (alternative[0], once(alternative[1]))
    steps = []
    step = due(stands, rules)
    while step is not None and step[0] != "clash" and not is_past(stands, steps, step, rules):
        steps.append(step)
        stands = behind(stands, step, rules)
        step = due(stands, rules)
    if step is None:
        return ("still", stands, steps)
    if step[0] == "put":
        return ("past", stands, steps)
    return ("clash", stands, steps + [step])
