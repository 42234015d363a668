"""Chains of tasks, each of which holds the next one."""

from wantedwork.worlds import holders_of


def chain_to(world, key, firsts):
    """Return a chain (first, key, ..) to a task, or None; firsts are the firsts of chains by their first keys."""
    holders = holders_of(world)
    # For each task that was found, the one that it holds on the way to the last one.
    held = {key: None}
    row = [key]
    at = 0
    while at < len(row):
        found = row[at]
        if found in firsts:
            return [firsts[found], *_way(held, found)]
        for holder in holders[found]:
            if holder not in held:
                held[holder] = found
                row.append(holder)
        at += 1
    return None


def _way(held, start):
    """Return the keys from a start on, each one followed by the one that it is told to hold."""
    keys = []
    key = start
    while key is not None:
        keys.append(key)
        key = held[key]
    return keys
