"""Rules looked through: the rule that comes, what it makes of the modes, rings, and rules that never come."""

from tintrow.errors import Rings
from tintrow.patterns import Word
from tintrow.rules import START

SIGNS = " !\"#$&'()*+,-./0123456789:;<=>?@ABCDEFGHIJKLMNOPQRSTUVWXYZ[\\]^_`abcdefghijklmnopqrstuvwxyz{|}~"


def first_rule(rules, mode, row, at):
    """The number of the rule that comes at a place of a row with this mode on top, or None where none fits."""
    for number, rule in enumerate(rules.modes[mode].rules):
        if rule.pattern.eaten(row, at) is not None:
            return number
    return None


def after(rules, modes, rule):
    """The list of the modes that are on behind the deed of the rule of this number of the top one."""
    behind = list(modes)
    do_deed(behind, rules.modes[modes[-1]].rules[rule])
    return behind


def do_deed(modes, rule):
    """Changes the list of the modes that are on as the deed of a rule of the top one asks."""
    if rule.deed == "push":
        modes.append(rule.goal)
    elif rule.deed == "into":
        modes[-1] = rule.goal
    elif rule.deed == "pop":
        modes.pop()
        if not modes:
            modes.append(START)


def ask_rings(rules):
    """Refuses rules that have a ring."""
    found = ring_of(rules)
    if found is not None:
        raise Rings(found[0], found[1])


def ring_of(rules):
    """A tuple of a ring, which is a list of modes' names, and its sign, or None for a row's end; None without ring."""
    for row in short_rows():
        for first in range(len(rules.modes)):
            ring = ring_from(rules, first, row)
            if ring is not None:
                return ([rules.modes[mode].name for mode in ring], row if row else None)
    return None


def short_rows():
    """The row without signs, and of each sign the row of it alone."""
    return [""] + list(SIGNS)


def ring_from(rules, first, row):
    """The ring, a list of modes' numbers, that begins with this mode at the row's begin, or None."""
    ring = []
    modes = [first]
    # At one place a mode does the same each time that it is on top: a way back to the first one meets none twice.
    while len(ring) < len(rules.modes):
        rule = idle_rule(rules, modes[-1], row)
        if rule is None:
            return None
        # What lies below the first mode is not known; the start mode may be on alone.
        if rule.deed == "pop" and len(modes) == 1 and first != START:
            return None
        ring.append(modes[-1])
        do_deed(modes, rule)
        if modes[-1] == first:
            return ring
    return None


def idle_rule(rules, mode, row):
    """The rule that comes at the row's begin with this mode on top, or None where none does or it eats."""
    number = first_rule(rules, mode, row, 0)
    if number is None:
        return None
    rule = rules.modes[mode].rules[number]
    return None if rule.pattern.eats() else rule


def piece_of(rules, mode, rule):
    """A row at whose begin the rule of this number is the first of its mode that fits, or None where it is hidden."""
    pattern = rules.modes[mode].rules[rule].pattern
    # Behind its first sign a longer row only lets more words fit, so the shortest rows that a pattern fits tell all.
    rows = [pattern.wanted] if isinstance(pattern, Word) else short_rows()
    for row in rows:
        if first_rule(rules, mode, row, 0) == rule:
            return row
    return None
