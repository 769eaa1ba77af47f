"""Threads: which letter answers which one."""

from letterhouse.letters import id_of, said


def elders_of(letters):
    """The address of each letter's elder by the letter's own; None where it has none."""
    named = {id_of(letter): named_elder(letter) for letter in letters}
    return {address: None if ends_ring(named, address) else named[address] for address in named}


def named_elder(letter):
    """The address that a letter names as its elder's; None where it names none."""
    own = id_of(letter)
    for name in ("refers", "answers"):
        others = [address for addresses in said(letter, name) for address in addresses if address != own]
        if others:
            return others[-1]
    return None


def ends_ring(named, address):
    """Whether elders go round in a ring from a letter back to it, and all others of the ring have greater addresses."""
    above = named[address]
    # No ring has more letters than there are; the walk may also come into a ring that it does not begin in.
    for _ in range(len(named)):
        if above == address:
            return True
        if above not in named or above < address:
            return False
        above = named[above]
    return False


def threads_of(letters):
    """The trees of letters: address, whether it is there, and the trees of those whose elder it is."""
    elders = elders_of(letters)
    named = [elder for elder in elders.values() if elder is not None]
    addresses = sorted(set(list(elders) + named))
    below = {address: [] for address in addresses}
    trees = []
    for address in addresses:
        elder = elders.get(address)
        beside = trees if elder is None else below[elder]
        beside.append((address, address in elders, below[address]))
    return trees


def thread_rows(letters):
    """A row for each letter, those whose elder it is behind it."""
    rows = []
    waiting = [(0, tree) for tree in reversed(threads_of(letters))]
    while waiting:
        deep, (address, is_there, below) = waiting.pop()
        rows.append("  " * deep + address + ("" if is_there else " ?"))
        waiting.extend([(deep + 1, tree) for tree in reversed(below)])
    return rows
