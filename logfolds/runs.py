"""The runs that lines tell: how long they are, their single steps, and all of them."""


def lengths_of(lines):
    """How many steps each line has, in a list."""
    lengths = []
    for _, (word, *numbers) in lines:
        if word == "none":
            lengths.append(0)
        elif word == "step":
            lengths.append(lengths[numbers[0]] + 1)
        else:
            lengths.append(lengths[numbers[0]] + lengths[numbers[1]])
    return lengths


def step_told_at(lines, lengths, number, index):
    """The number of the step with this index, which is there, among those of the line with this number."""
    while True:
        word, first, second = lines[number][1]
        if index < lengths[first]:
            number = first
        elif word == "step":
            return second
        else:
            index = index - lengths[first]
            number = second


def run_told(lines, numbers):
    """The steps of the lines with these numbers, one after the other, in a tuple."""
    run = []
    # Where the steps of a line stand in the run, if they were told before: then they are copied.
    spans = {}
    waiting = [(number, None) for number in reversed(numbers)]
    while waiting:
        number, begin = waiting.pop()
        word, *parts = lines[number][1]
        if begin is not None:
            if word == "step":
                run.append(parts[1])
            spans[number] = (begin, len(run))
        elif number in spans:
            first, behind = spans[number]
            copied = run[first:behind]
            run.extend(copied)
        else:
            waiting.append((number, len(run)))
            if word == "step":
                waiting.append((parts[0], None))
            elif word == "ways":
                waiting.append((parts[1], None))
                waiting.append((parts[0], None))
    return tuple(run)
