"""Thinning and the plan: rows that take part in a match, and the matches and answers that are found by them."""

from askwithin.errors import TooMany
from askwithin.terms import names_of, put_in
from askwithin.trees import ears, ring
from askwithin.walk import answers_of, extended, fits, matches_of, refuse_ways, rows_of, walked

MOST_MATCHES = 4096


def fitting(book, line):
    return sorted([row for row in rows_of(book, line) if fits(line, row, {}) is not None])


def all_fitting(book, lines):
    return [fitting(book, line) for line in lines]


def refuse_ring(book, lines):
    refuse_ways(book, tuple([lines[k] for k in ring(lines)]))


def common(line, other):
    return [name for name in names_of((line,)) if name in other[1]]


def key_of(line, row, names):
    # Rows that fit their lines are partners just where their keys, by the names common to both lines, are alike.
    return put_in(names, fits(line, row, {}))


def with_partner(line, rows, other, others):
    names = common(line, other)
    met = dict([(key_of(other, row, names), True) for row in others])
    return [row for row in rows if key_of(line, row, names) in met]


def thin_parents(lines, kept):
    told = list(kept)
    for ear, parent in ears(lines)[0]:
        told[parent] = with_partner(lines[parent], told[parent], lines[ear], told[ear])
    return told


def walk_rest(lines, kept):
    rest = ears(lines)[1]
    return walked(tuple([lines[k] for k in rest]), [kept[k] for k in rest])


def thin_rest(lines, kept):
    told = list(kept)
    found = walk_rest(lines, kept)
    for k in ears(lines)[1]:
        told[k] = sorted(set([put_in(lines[k][1], known) for known in found]))
    return told


def thin_ears(lines, kept):
    told = list(kept)
    for ear, parent in reversed(ears(lines)[0]):
        told[ear] = with_partner(lines[ear], told[ear], lines[parent], told[parent])
    return told


def thin_all(lines, kept):
    return thin_ears(lines, thin_rest(lines, thin_parents(lines, kept)))


def thinned(book, lines):
    refuse_ring(book, lines)
    return thin_all(lines, all_fitting(book, lines))


def summed(line, counts, names):
    sums = {}
    for row, number in counts.items():
        key = key_of(line, row, names)
        sums[key] = sums.get(key, 0) + number
    return sums


def times(line, counts, names, sums):
    return dict([(row, number * sums.get(key_of(line, row, names), 0)) for row, number in counts.items()])


def count_parents(lines, kept):
    # For each row, in how many ways the lines that hang below its line, ear by ear, go with it.
    told = [dict([(row, 1) for row in rows]) for rows in kept]
    for ear, parent in ears(lines)[0]:
        names = common(lines[ear], lines[parent])
        told[parent] = times(lines[parent], told[parent], names, summed(lines[ear], told[ear], names))
    return told


def many(book, lines):
    refuse_ring(book, lines)
    counts = count_parents(lines, all_fitting(book, lines))
    rest = ears(lines)[1]
    total = 0
    for known in walk_rest(lines, counts):
        number = 1
        for k in rest:
            number = number * counts[k][put_in(lines[k][1], known)]
        total = total + number
    return total


def least_of(book, lines):
    kept = all_fitting(book, lines)
    known = {}
    # Names go line by line: so the least row of the first line begins the least match, and so on with it alone kept.
    for k, line in enumerate(lines):
        kept = thin_all(lines, kept)
        if len(kept[k]) == 0:
            return None
        kept[k] = kept[k][:1]
        known = fits(line, kept[k][0], known)
    return put_in(names_of(lines), known)


def least_match(book, lines):
    refuse_ring(book, lines)
    return least_of(book, lines)


def joined(found, line, rows, names):
    groups = {}
    for row in rows:
        groups.setdefault(key_of(line, row, names), []).append(row)
    told = []
    for known in found:
        told.extend(extended([known], line, groups.get(put_in(names, known), [])))
    return told


def plan_matches(book, lines):
    if many(book, lines) > MOST_MATCHES:
        raise TooMany("there are too many matches to tell them all")
    kept = thinned(book, lines)
    found = walk_rest(lines, kept)
    # From the last ear to the first its parent is joined ahead of it, so nothing is found that no match has.
    for ear, parent in reversed(ears(lines)[0]):
        found = joined(found, lines[ear], kept[ear], common(lines[ear], lines[parent]))
    return matches_of(lines, found)


def plan_answers(book, question):
    told = []
    for alternative in question:
        told.extend(answers_of(alternative, plan_matches(book, alternative[1])))
    return sorted(set(told))
