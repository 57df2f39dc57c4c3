"""Within: whether each answer of a question is one of another, shown by maps or by a book that parts the two."""

from askwithin.chase import chase
from askwithin.papers import first_with
from askwithin.terms import names_of, numbers_of, put_in, put_in_lines


def frozen(alternative, above):
    known = dict([(name, above + 1 + k) for k, name in enumerate(names_of(alternative[1]))])
    book = {}
    for table, row in sorted(set(put_in_lines(alternative[1], known))):
        book.setdefault(table, []).append(row)
    return (book, put_in(alternative[0], known))


def greatest_number(one, other):
    numbers = [0]
    for alternative in one + other:
        numbers.extend(numbers_of(alternative))
    return max(numbers)


def thawed(numbers, lines, above):
    # No number of the lines is above, so each one that is stands for a name.
    names = names_of(lines)
    return [names[number - above - 1] if number > above else number for number in numbers]


def told_alone(alternative, other, rules, above):
    ended = chase(alternative, rules)
    if ended[0] == "clash":
        return ("clash", ended[2])
    ice = frozen(ended[1], above)
    # A frozen book is small, so nothing is refused here, however its lines lie around a ring.
    found = first_with(ice[0], other, ice[1])
    if found is not None:
        names = names_of(other[found[0]][1])
        pairs = list(zip(names, thawed(found[1], ended[1][1], above)))
        return ("map", found[0], pairs, ended[2])
    if ended[0] == "still":
        return ("not", ice[0], ice[1])
    return ("open",)


def within(one, other, rules=None):
    above = greatest_number(one, other)
    told = [told_alone(alternative, other, [] if rules is None else rules, above) for alternative in one]
    for number, own in enumerate(told):
        if own[0] == "not":
            return ("not", number, own[1], own[2])
    past = [number for number, own in enumerate(told) if own[0] == "open"]
    if len(past) > 0:
        return ("open", past)
    return ("within", told)


def same(one, other, rules=None):
    words = [within(one, other, rules)[0], within(other, one, rules)[0]]
    if "not" in words:
        return "no"
    return "open" if "open" in words else "yes"
