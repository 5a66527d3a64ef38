"""Programs that are trimmed, and their longest ways (points 14.2 and 14.3)."""


def _leads(program, k):
    """The numbers with which ways go on from an instruction; the one behind the last is the end."""
    instruction = program[k]
    if instruction[0] == "answer":
        return []
    if instruction[0] == "less":
        return list(instruction[3:])
    return [k + 1]


def longest_run(program):
    """The greatest number of instructions on a way from the first one to an answer or behind the last one."""
    longest = [0] * (len(program) + 1)
    for k in reversed(range(len(program))):
        longest[k] = 1 + max([longest[lead] for lead in _leads(program, k)], default=0)
    return longest[0]


def trimmed(program):
    """A program with less that does the same: `dead`, `ahead`, `idle` and `twice`, as long as one can be taken."""
    left = _straightened(program)
    while True:
        found = _without_idle(left)
        if found is None:
            found = _without_twice(left)
        if found is None:
            return left
        left = _straightened(found)


def _straightened(program):
    """A program in which neither `dead` nor `ahead` can be taken any more.

    A step ahead leads where ways lead already, so it is the same in which order these two
    steps are taken: all that are dead at last are taken out at the end.
    """
    left = list(program)
    for k in reversed(range(len(left))):
        if left[k][0] == "less":
            left[k] = _ahead(left, left[k])
    return _without_dead(tuple(left))


def _ahead(program, instruction):
    """A `less` whose numbers lead past all others that it settles; those behind it lead so already."""
    word, at, number, yes, no = instruction
    while program[yes][:2] == (word, at) and program[yes][2] >= number:
        yes = program[yes][3]
    while program[no][:2] == (word, at) and program[no][2] <= number:
        no = program[no][4]
    return (word, at, number, yes, no)


def _without_dead(program):
    """A program without the instructions to which no way leads."""
    reached = {0: True}
    for k in range(len(program)):
        if k in reached:
            for lead in _leads(program, k):
                reached[lead] = True
    for k in reversed(range(len(program))):
        if k not in reached:
            program = _taken_out(program, k)
    return program


def _taken_out(program, k):
    """A program without an instruction; numbers that led to it lead to the one behind it."""
    return _with_numbers((*program[:k], *program[k + 1:]), lambda lead: lead - 1 if lead > k else lead)


def _with_numbers(program, changed):
    """A program with other numbers in each `less`, as a function tells them."""
    found = []
    for instruction in program:
        if instruction[0] == "less":
            instruction = (*instruction[:3], changed(instruction[3]), changed(instruction[4]))
        found.append(instruction)
    return tuple(found)


def _without_idle(program):
    """A program without the first number that is loaded in vain, or None."""
    for k in range(len(program) - 1):
        word, behind = program[k][0], program[k + 1]
        loads_again = behind[0] in ("byte", "word", "special", "put") and behind[1] == program[k][1]
        if word in ("put", "special") and loads_again:
            return _taken_out(program, k)
    return None


def _without_twice(program):
    """A program without the first answer that an earlier one can stand for, or None."""
    firsts = {}
    for k in range(len(program)):
        if program[k][0] != "answer":
            continue
        first = firsts.setdefault(program[k], k)
        if first < k and program[k - 1][0] in ("less", "answer") and _all_before(program, k, first):
            return _taken_out(_with_numbers(program, lambda lead: first if lead == k else lead), k)
    return None


def _all_before(program, k, first):
    """True if each `less` that leads to an instruction stands before another one."""
    return all(program[i][0] != "less" or k not in program[i][3:] for i in range(first, k))
