"""Sharing costs exactly."""

from math import gcd

from wantedwork.surveys import reaching_users


def plus_fraction(fraction, numerator, denominator):
    """Return the sum of a fraction and another one, in lowest terms."""
    above = fraction[0] * denominator + numerator * fraction[1]
    below = fraction[1] * denominator
    common = gcd(above, below)
    return above // common, below // common


def charge(world, task, cost):
    """Charge a cost for a task to the users that reach it, or to the house."""
    bearers = reaching_users(world, task.key)
    if len(bearers) == 0:
        bearers = [None]
    for bearer in bearers:
        world.borne[bearer] = plus_fraction(world.borne.get(bearer, (0, 1)), cost, len(bearers))
    task.paid += cost
    world.charged += cost


def ordered_shares(borne):
    """Return a new dict of shares in the order of the users, the house at last."""
    users = sorted([user for user in borne if user is not None])
    shares = {user: borne[user] for user in users}
    if None in borne:
        shares[None] = borne[None]
    return shares
