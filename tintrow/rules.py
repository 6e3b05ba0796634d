"""Rules, the modes they stand in, and the names that both bear."""

LETTERS = "abcdefghijklmnopqrstuvwxyz"
LONGEST_NAME = 8
# Modes are numbered in their text's order, and its first one is the start mode.
START = 0


def is_name(word):
    """Whether a word is one to eight small letters."""
    if len(word) < 1 or len(word) > LONGEST_NAME:
        return False
    return all([sign in LETTERS for sign in word])


class Rule:
    """A pattern with what is done where it comes.

    colour is the text without signs where the pattern eats nothing; deed is "stay", "push", "pop" or "into";
    goal is the number of the mode that is pushed or gone into, else None; fold is "open", "close" or "".
    """

    def __init__(self, pattern, colour, deed, goal, fold):
        self.pattern = pattern
        self.colour = colour
        self.deed = deed
        self.goal = goal
        self.fold = fold


class Mode:
    """A name, a colour for what no rule eats, and a list of rules in their order."""

    def __init__(self, name, colour, rules):
        self.name = name
        self.colour = colour
        self.rules = list(rules)


class Rules:
    """A list of modes, of which the first one is the start mode."""

    def __init__(self, modes):
        self.modes = list(modes)


def copied_rules(rules):
    """Rules of the same fields that do not hang on these."""
    return Rules([copied_mode(mode) for mode in rules.modes])


def copied_mode(mode):
    """A Mode of the same fields that does not hang on this one."""
    return Mode(mode.name, mode.colour, [copied_rule(rule) for rule in mode.rules])


def copied_rule(rule):
    """A Rule of the same fields; the pattern is shared, since it only answers."""
    return Rule(rule.pattern, rule.colour, rule.deed, rule.goal, rule.fold)
