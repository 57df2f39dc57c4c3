"""The least question: leaving out lines and alternatives, and what shows that those left are needed."""

from askwithin.inside import within
from askwithin.terms import names_of


def without(things, k):
    return things[:k] + things[k + 1:]


def line_needed(alternative, k, rules):
    shorter = (alternative[0], without(alternative[1], k))
    names = names_of(shorter[1])
    alone = [term for term in alternative[0] if isinstance(term, str) and term not in names]
    if len(alone) > 0:
        return ("head", alone[0])
    return within([shorter], [alternative], rules)


def lines_needed(alternative, rules):
    return [line_needed(alternative, k, rules) for k in range(len(alternative[1]))]


def alternative_needed(question, k, rules):
    return within([question[k]], without(question, k), rules)


def first_to_go(alternative, rules):
    for k in range(len(alternative[1])):
        if line_needed(alternative, k, rules)[0] == "within":
            return k
    return None


def with_least_lines(alternative, rules):
    stands = alternative
    k = first_to_go(stands, rules)
    while k is not None:
        stands = (stands[0], without(stands[1], k))
        k = first_to_go(stands, rules)
    return stands


def least(question, rules=None):
    stands = [with_least_lines(alternative, rules) for alternative in question]
    for k in range(len(question) - 1, -1, -1):
        if alternative_needed(stands, k, rules)[0] == "within":
            stands = without(stands, k)
    return stands


def needed(question, rules=None):
    told = []
    for k, alternative in enumerate(question):
        told.append((alternative_needed(question, k, rules), lines_needed(alternative, rules)))
    return told
