"""The base of a list of rules: the fewest rules with the same closed sets."""

from orderhall.rules import closure_of


# Each need is filled by all other rules, and its rule is left out where that yields all that it gives itself.
# A need that the other rules leave as it is then is restless; and a restless set that is none of these needs would
# hold the closure of each need within it, so it would be closed: just the restless sets are needs.
def base_of(rules):
    kept = [(need, closure_of(rules, need)) for need, give in rules]
    for turn in range(len(rules)):
        rule = kept.pop(0)
        filled = closure_of(kept, rule[0])
        if filled != rule[1]:
            kept.append((filled, rule[1]))
    return sorted(kept)
