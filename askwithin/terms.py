"""Terms, lines, alternatives and questions: what is one, and what stands in them."""

LETTERS = "abcdefghijklmnopqrstuvwxyz"
FIGURES = "0123456789"
MOST_SIGNS = 12
MOST_TERMS = 6
MOST_HEAD_TERMS = 4
MOST_LINES = 5
MOST_ALTERNATIVES = 3


def is_whole(thing):
    # To Python True and False are ints, too; here they are no whole numbers.
    return isinstance(thing, int) and not isinstance(thing, bool)


def is_number(thing):
    return is_whole(thing) and abs(thing) < 10 ** 60


def is_value(thing):
    # Two powers for seventy figures, as a written exponent goes up to 64 only.
    return is_whole(thing) and abs(thing) < 10 ** 60 * 10 ** 10


def is_name(thing):
    if not isinstance(thing, str) or not 1 <= len(thing) <= MOST_SIGNS:
        return False
    return thing[0] in LETTERS and all([sign in LETTERS + FIGURES for sign in thing])


def is_term(thing):
    return is_name(thing) or is_number(thing)


def is_pair(thing):
    return isinstance(thing, tuple) and len(thing) == 2


def are_terms(thing, fewest, most):
    if not isinstance(thing, tuple) or not fewest <= len(thing) <= most:
        return False
    return all([is_term(term) for term in thing])


def is_line(thing):
    return is_pair(thing) and is_name(thing[0]) and are_terms(thing[1], 1, MOST_TERMS)


def are_lines(thing):
    if not isinstance(thing, tuple) or len(thing) > MOST_LINES:
        return False
    return all([is_line(line) for line in thing])


def of_one_length(things):
    return len(set([len(thing) for thing in things])) <= 1


def of_one_width(lines):
    widths = tables_of(lines)
    return len(widths) == len(set([width[0] for width in widths]))


def stands_in(head, lines):
    names = names_of(lines)
    return all([term in names for term in head if isinstance(term, str)])


def is_alternative(thing):
    if not is_pair(thing) or not are_terms(thing[0], 0, MOST_HEAD_TERMS) or not are_lines(thing[1]):
        return False
    return stands_in(thing[0], thing[1]) and of_one_width(thing[1])


def is_question(thing):
    if not isinstance(thing, list) or len(thing) > MOST_ALTERNATIVES:
        return False
    if not all([is_alternative(alternative) for alternative in thing]):
        return False
    lines = []
    for alternative in thing:
        lines.extend(alternative[1])
    return of_one_length([alternative[0] for alternative in thing]) and of_one_width(lines)


def names_of(lines):
    names = {}
    for line in lines:
        for term in line[1]:
            if isinstance(term, str):
                names[term] = True
    return list(names)


def tables_of(lines):
    return sorted(set([(line[0], len(line[1])) for line in lines]))


def numbers_of(alternative):
    terms = list(alternative[0])
    for line in alternative[1]:
        terms.extend(line[1])
    return sorted(set([term for term in terms if not isinstance(term, str)]))


def put_in(terms, known):
    # Each term is looked up once, so names may be exchanged for one another.
    return tuple([known.get(term, term) for term in terms])


def put_in_lines(lines, known):
    return tuple([(line[0], put_in(line[1], known)) for line in lines])


def once(lines):
    kept = {}
    for line in lines:
        kept[line] = True
    return tuple(kept)
