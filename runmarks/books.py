"""Halving: how a key, or a count, is found among many with few looks."""


def halved(many, goes_on):
    # goes_on tells of a place whether what is wanted lies behind it.
    low = 0
    high = many
    looks = []
    while low < high:
        at = (low + high) // 2
        looks.append(at)
        if goes_on(at):
            low = at + 1
        else:
            high = at
    return (low, looks)


def halved_keys(keys, key):
    return halved(len(keys), lambda at: keys[at] < key)


def halved_counts(aheads, k):
    behind, looks = halved(len(aheads), lambda at: aheads[at] <= k)
    return (behind - 1, looks)
