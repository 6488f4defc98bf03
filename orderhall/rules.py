"""Rules (need, give): whoever has all marks of need has all marks of give."""

from orderhall.bits import places_of, within
from orderhall.orders import refuse_more

MOST_MARKS = 7


def closure_of(rules, marks):
    reached = marks
    grown = None
    while grown != reached:
        grown = reached
        for need, give in rules:
            if within(need, reached):
                reached |= give
    return reached


def follows(rules, rule):
    return within(rule[1], closure_of(rules, rule[0]))


# What one rule less still yields is tried for each rule in turn, so that none is left that can be left out.
def why_of(rules, marks, mark):
    if not yields(rules, marks, mark):
        return None
    places = list(range(len(rules)))
    for place in range(len(rules)):
        fewer = [other for other in places if other != place]
        if yields([rules[other] for other in fewer], marks, mark):
            places = fewer
    return laid_by_need(rules, marks, places)


def yields(rules, marks, mark):
    return mark in places_of(closure_of(rules, marks))


# A rule whose need were never met could be left out, so there is always a next one.
def laid_by_need(rules, marks, places):
    laid = []
    reached = marks
    while len(laid) < len(places):
        ready = [place for place in places if place not in laid and within(rules[place][0], reached)]
        laid.append(ready[0])
        reached |= rules[ready[0]][1]
    return laid


def closed_sets(many, rules):
    refuse_more(many, MOST_MARKS)
    return [bits for bits in range(1 << many) if closure_of(rules, bits) == bits]
