"""Papers: why a row is an answer of a question, and what shows that it is none."""

from askwithin.terms import names_of, put_in, put_in_lines
from askwithin.thin import all_fitting, fitting, least_of, refuse_ring, thin_parents, walk_rest, with_partner
from askwithin.trees import ears, ring
from askwithin.walk import fits, refuse_rows


def bound(head, row):
    # A head is bound to a row just as a line with its terms would be fitted by it, whatever the table is called.
    return fits(("head", head), row, {})


def refuse_bound(book, question, row):
    for head, lines in question:
        known = bound(head, row)
        if known is not None:
            refuse_ring(book, put_in_lines(lines, known))


def least_with(book, alternative, row):
    known = bound(alternative[0], row)
    if known is None:
        return None
    lines = put_in_lines(alternative[1], known)
    numbers = least_of(book, lines)
    if numbers is None:
        return None
    # The names that are left stand in the same order as ahead, so the least of theirs is the least of all.
    known.update(dict(zip(names_of(lines), numbers)))
    return put_in(names_of(alternative[1]), known)


def first_with(book, question, row):
    for number, alternative in enumerate(question):
        numbers = least_with(book, alternative, row)
        if numbers is not None:
            return (number, numbers)
    return None


def why(book, question, row):
    # All alternatives are looked at first: a later one may be a reason to refuse, too.
    refuse_bound(book, question, row)
    return first_with(book, question, row)


def paper(book, alternative, row):
    known = bound(alternative[0], row)
    if known is None:
        return ("head",)
    lines = put_in_lines(alternative[1], known)
    refuse_ring(book, lines)
    kept = thin_parents(lines, all_fitting(book, lines))
    if len(walk_rest(lines, kept)) > 0:
        return None
    return ("rows", kept)


def only_fitting(lines, kept):
    # Rows that don't fit their line are partners of none, so they show nothing.
    return [[row for row in rows if fits(line, row, {}) is not None] for line, rows in zip(lines, kept)]


def unexplained(book, lines, kept):
    left = [[row for row in fitting(book, line) if row not in rows] for line, rows in zip(lines, kept)]
    fit = only_fitting(lines, kept)
    # One ear without a partner explains why a row isn't in the list; a row with a partner in each stays unexplained.
    for ear, parent in ears(lines)[0]:
        left[parent] = with_partner(lines[parent], left[parent], lines[ear], fit[ear])
    return left


def holds(book, alternative, row, paper):
    known = bound(alternative[0], row)
    if paper == ("head",):
        return known is None
    kept = paper[1]
    if known is None or len(kept) != len(alternative[1]):
        return False
    lines = put_in_lines(alternative[1], known)
    refuse_rows([kept[k] for k in ring(lines)])
    if any([len(rows) > 0 for rows in unexplained(book, lines, kept)]):
        return False
    return len(walk_rest(lines, kept)) == 0


def told(book, question, row):
    reason = why(book, question, row)
    if reason is not None:
        return ("yes", reason[0], reason[1])
    return ("no", [paper(book, alternative, row) for alternative in question])
