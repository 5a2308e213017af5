"""Judging: a least family with prices that show that none is worth less, or a lonely group."""


# A hearing is spent when the prices of the groups that it enters come to its
# cost. Groups that no spent hearing enters are charged, each until one does.
class Pricing:
    def __init__(self, hearings):
        self.rests = dict([((one, other), cost) for one, other, cost in hearings])
        # Kept in the order in which they were spent: `grown` needs it.
        self.spent = []
        self.prices = []
        self.lonely = None

    def charge(self, group):
        entering = [pair for pair in self.rests if pair[1] in group and pair[0] not in group]
        if entering == []:
            self.lonely = group
            return
        price = min([self.rests[pair] for pair in entering])
        # A teller with a hearing of cost 0 comes to no price at all.
        if price != 0:
            self.prices.append((group, price))
        for pair in entering:
            self.rests[pair] = self.rests[pair] - price
            if self.rests[pair] == 0:
                self.spent.append(pair)


# From these the spent hearings lead to the teller, who is one of them too.
def tellers_behind(into, teller):
    found = {teller: True}
    waiting = [teller]
    while waiting != []:
        at = waiting.pop()
        for one in into[at]:
            if one not in found:
                found[one] = True
                waiting.append(one)
    return sorted(found)


# A shortest one of all such groups is taken: it holds no other one, so spent
# hearings lead from each of its tellers to each other one. Such groups only
# grow together as more is spent, so of any two that are charged one holds the
# other or they share no teller.
def cut_off(many, spent):
    into = [[] for teller in range(many)]
    for one, other in spent:
        into[other].append(one)
    groups = [tellers_behind(into, teller) for teller in range(1, many)]
    return min([group for group in groups if group[0] != 0], key=len, default=None)


def priced(many, hearings):
    pricing = Pricing(hearings)
    # `cut_off` would come to each teller by itself first too, but slower.
    for teller in range(1, many):
        pricing.charge([teller])
    group = cut_off(many, pricing.spent)
    while group is not None and pricing.lonely is None:
        pricing.charge(group)
        group = cut_off(many, pricing.spent)
    return pricing


# The family is worth just the prices if it enters each priced group once.
# What leads about within a group was spent before all that enters it, so by
# taking what was spent first, a group once entered is gone through to its end
# before anything enters it again.
def grown(many, spent):
    family = [None] * many
    reached = {0: True}
    while len(reached) < many:
        leading_on = [pair for pair in spent if pair[0] in reached and pair[1] not in reached]
        earliest = leading_on[0]
        family[earliest[1]] = earliest[0]
        reached[earliest[1]] = True
    return family


def judged(book):
    pricing = priced(book.many(), book.hearings())
    if pricing.lonely is not None:
        return ("lonely", pricing.lonely)
    return ("family", grown(book.many(), pricing.spent), pricing.prices)
