"""Registers for an expression."""

from openorder.plans import Plans


def fewest_spills(expression, registers):
    """Return the least number of spills of the PLANs with at most so many registers."""
    return Plans(expression).spills(registers, {})


def best_plan(expression, registers):
    """Return the least one of the PLANs with at most so many registers and the fewest spills."""
    return Plans(expression).best(registers)


def need(expression):
    """Return the least number of registers of the PLANs with as few spills as any PLAN has."""
    return Plans(expression).need()
