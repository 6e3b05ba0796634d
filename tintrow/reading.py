"""Rules read from a text, and shown as one."""

from tintrow.errors import NoRules
from tintrow.patterns import Any
from tintrow.patterns import End
from tintrow.patterns import Many
from tintrow.patterns import One
from tintrow.patterns import Still
from tintrow.patterns import Without
from tintrow.patterns import Word
from tintrow.rules import Mode
from tintrow.rules import Rule
from tintrow.rules import Rules
from tintrow.rules import is_name

MOST_MODES = 12
MOST_RULES = 12
PATTERNS = ("word", "one", "none", "many", "any", "still", "end")
DEEDS = ("stay", "push", "pop", "into")
GOING = ("push", "into")
FOLDS = ("open", "close")


class Cursor:
    """The words of one row, taken one by one; the first that is not as asked is refused with its place."""

    def __init__(self, row, text):
        self.row = row
        self.words = text.split(" ")
        self.at = 0

    def more(self):
        """Whether there is a next word."""
        return self.at < len(self.words)

    def peek(self):
        """The next word; where there is none, the text without signs, which is nowhere a good word."""
        return self.words[self.at] if self.more() else ""

    def ask(self, good):
        """Refuses the next word, or the lack of it, unless it is good."""
        if not good:
            raise NoRules(self.row, self.at)

    def take(self, good):
        """The next word, which is asked to be good."""
        self.ask(good)
        word = self.peek()
        self.at += 1
        return word

    def take_choice(self, words):
        """The next word, one of these."""
        return self.take(self.peek() in words)

    def take_name(self):
        """The next word, a name."""
        return self.take(is_name(self.peek()))

    def take_signs(self):
        """The signs that the next word tells behind its ', with _ for a blank."""
        word = self.peek()
        self.take(len(word) > 1 and word.startswith("'"))
        return word[1:].replace("_", " ")


def read_rules(text):
    """The Rules that a text tells, or NoRules with the place of its first fault."""
    rows = text.split("\n")
    numbers = mode_numbers(rows)
    modes = []
    nowhere = []
    for number, row in enumerate(rows):
        cursor = Cursor(number, row)
        if not modes or cursor.peek() == "mode":
            modes.append(read_mode(cursor, modes))
        else:
            rules = modes[-1].rules
            cursor.ask(len(rules) < MOST_RULES)
            rules.append(read_rule(cursor, numbers, nowhere))
    # A goal that stands nowhere counts only where nothing else is at fault, further down either.
    if nowhere:
        raise NoRules(nowhere[0][0], nowhere[0][1])
    return Rules(modes)


def mode_numbers(rows):
    """The modes' numbers by their names, known beforehand since a goal may stand ahead of its mode.

    Right where each mode's row is as told; where one is not, the text is refused anyway.
    """
    numbers = {}
    for row in rows:
        words = row.split(" ")
        if words[0] == "mode" and len(words) > 1:
            numbers[words[1]] = len(numbers)
    return numbers


def read_mode(cursor, modes):
    """The Mode, as yet without rules, that a row tells behind these modes."""
    cursor.ask(len(modes) < MOST_MODES)
    cursor.take_choice(("mode",))
    cursor.ask(cursor.peek() not in [mode.name for mode in modes])
    name = cursor.take_name()
    colour = cursor.take_name()
    cursor.ask(not cursor.more())
    return Mode(name, colour, [])


def read_rule(cursor, numbers, nowhere):
    """The Rule that a row tells; the place of a goal that stands nowhere is put to the list nowhere."""
    pattern = read_pattern(cursor)
    colour = cursor.take_name() if pattern.eats() else ""
    deed = cursor.take_choice(DEEDS)
    goal = read_goal(cursor, numbers, nowhere) if deed in GOING else None
    fold = cursor.take_choice(FOLDS) if cursor.more() else ""
    cursor.ask(not cursor.more())
    return Rule(pattern, colour, deed, goal, fold)


def read_pattern(cursor):
    """The Pattern that the next words tell."""
    kind = cursor.take_choice(PATTERNS)
    if kind == "any":
        return Any()
    if kind == "still":
        return Still()
    if kind == "end":
        return End()
    signs = cursor.take_signs()
    if kind == "word":
        return Word(signs)
    if kind == "one":
        return One(signs)
    if kind == "none":
        return Without(signs)
    return Many(signs)


def read_goal(cursor, numbers, nowhere):
    """The number of the mode that the next word names, or None where it stands nowhere."""
    place = (cursor.row, cursor.at)
    name = cursor.take_name()
    if name not in numbers:
        nowhere.append(place)
    return numbers.get(name)


def shown_rules(rules):
    """The very text that tells these Rules."""
    rows = []
    for mode in rules.modes:
        rows.append(" ".join(["mode", mode.name, mode.colour]))
        for rule in mode.rules:
            rows.append(shown_rule(rule, rules.modes))
    return "\n".join(rows)


def shown_rule(rule, modes):
    """The row of one rule."""
    words = shown_pattern(rule.pattern)
    if rule.pattern.eats():
        words.append(rule.colour)
    words.append(rule.deed)
    if rule.goal is not None:
        words.append(modes[rule.goal].name)
    if rule.fold != "":
        words.append(rule.fold)
    return " ".join(words)


def shown_pattern(pattern):
    """The list of a pattern's words."""
    if isinstance(pattern, Word):
        return ["word", shown_signs(pattern.wanted)]
    if isinstance(pattern, One):
        return ["one", shown_signs(pattern.signs)]
    if isinstance(pattern, Without):
        return ["none", shown_signs(pattern.signs)]
    if isinstance(pattern, Many):
        return ["many", shown_signs(pattern.signs)]
    if isinstance(pattern, Any):
        return ["any"]
    if isinstance(pattern, Still):
        return ["still"]
    return ["end"]


def shown_signs(signs):
    """The word that tells these signs."""
    return "'" + signs.replace(" ", "_")
