"""Costs: what a plan costs, by how many rows the tables have."""

from everyplan.bounds import bounded_by
from everyplan.facts import met_once_by
from everyplan.plans import planned_of
from everyplan.walks import folded


# What a plan costs, with what is known of its ask and the ask's bounds.
class Priced:
    def __init__(self, price, bounded):
        self.price = price
        self.bounded = bounded
        self.most = bounded.most


def bounded_table(frame, counts, ask):
    return bounded_by(frame, counts, ask, [])


# The bounds of a plan's ask, by those of the asks of the plans within and of tables that it reads itself.
def bounded_plan(frame, counts, planned, given):
    word = planned.plan[0]
    ask = planned.asked
    inner = [one.bounded for one in given]
    if word == "sort":
        return inner[0]
    if word == "walk":
        inner = [bounded_table(frame, counts, ask[1])]
    if word == "seek":
        inner.append(bounded_table(frame, counts, ask[2]))
    return bounded_by(frame, counts, ask, inner)


# How many figures a number has when it is written with 0 and 1; none for 0.
def figures_of(many):
    return many.bit_length()


def seek_price(frame, counts, planned, given):
    ask = planned.asked
    table = bounded_table(frame, counts, ask[2])
    found = 1 if met_once_by(ask[3], table.known) else counts[ask[2][1]]
    return given[0].price + given[0].most * (1 + found)


def price_of(frame, counts, planned, given, most):
    word = planned.plan[0]
    prices = sum([one.price for one in given])
    mosts = sum([one.most for one in given])
    if word == "scan":
        return most
    if word == "walk":
        return 1 + most
    if word == "seek":
        return seek_price(frame, counts, planned, given)
    if word == "nest":
        return prices + given[0].most * given[1].most
    if word == "hash" or word == "merge":
        return prices + mosts + most
    if word == "sort":
        return prices + mosts * figures_of(mosts)
    if word == "top":
        return prices + mosts * figures_of(min(planned.plan[3], mosts))
    return prices + mosts


def priced(frame, counts, planned, given):
    bounded = bounded_plan(frame, counts, planned, given)
    return Priced(price_of(frame, counts, planned, given, bounded.most), bounded)


def cost(frame, orders, counts, plan):
    def build(planned, given):
        return priced(frame, counts, planned, given)

    return folded(planned_of(frame, orders, plan), lambda planned: planned.within, build).price
