"""A row gone over: its colours, the modes behind it, and its fold marks."""

from tintrow.looking import do_deed
from tintrow.looking import first_rule


def gone_over(rules, modes, row):
    """The tuple of a row's colours, the modes that are on behind it, and its fold marks, from these modes on."""
    on = list(modes)
    tints = []
    marks = []
    while True:
        # Each sign that is eaten has got its colour, so their number is the place.
        at = len(tints)
        mode = rules.modes[on[-1]]
        number = first_rule(rules, on[-1], row, at)
        if number is not None:
            rule = mode.rules[number]
            tints.extend([rule.colour] * rule.pattern.eaten(row, at))
            if rule.fold != "":
                marks.append((at, rule.fold))
            do_deed(on, rule)
        elif at < len(row):
            tints.append(mode.colour)
        else:
            return (tints, on, marks)
