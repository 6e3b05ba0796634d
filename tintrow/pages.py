"""A row's tint: its colours as a text, and read again."""


def tint_of(colours):
    """The text of each longest run of one colour, how many signs and which one."""
    runs = []
    begin = 0
    for at in range(1, len(colours) + 1):
        if at == len(colours) or colours[at] != colours[begin]:
            runs.append(shown_run(at - begin, colours[begin]))
            begin = at
    return ", ".join(runs)


def shown_run(many, colour):
    """The text of one run."""
    return f"{many} {colour}"


def read_tint(text):
    """The list of colours that a tint tells."""
    colours = []
    if text == "":
        return colours
    for run in text.split(", "):
        words = run.split(" ")
        colours.extend([words[1]] * int(words[0]))
    return colours
