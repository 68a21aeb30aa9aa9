"""Gaps: the integers between some numbers, and what kinds of them there are."""


def with_zero(numbers):
    """Some numbers and 0, each once and ascending."""
    return sorted(set([0, *numbers]))


def gaps(numbers):
    """The first and the last integer of each gap between and above some numbers; no last above."""
    ends = with_zero(numbers)
    rows = [(low + 1, high - 1) for low, high in zip(ends, ends[1:]) if low + 1 < high]
    return [*rows, (ends[-1] + 1, None)]


def gap_numbers(first, last):
    """One integer of each kind in a gap."""
    if last is None:
        return [first, first + 1]
    return sorted(set([first, min(first + 1, last), last]))


def kind_numbers(numbers):
    """One integer of each kind beside some numbers."""
    inner = [number for first, last in gaps(numbers) for number in gap_numbers(first, last)]
    return [*with_zero(numbers), *inner]


def number_kind(numbers, number):
    """A tuple that is equal for two integers exactly if they are of one kind beside some numbers."""
    if number in with_zero(numbers):
        return ("told", number)
    first, last = [gap for gap in gaps(numbers) if gap[1] is None or number <= gap[1]][0]
    return ("gap", first, number == first, number == last)


def number_spots(numbers):
    """The numbers and 0, and the first integer of each gap, ascending."""
    return sorted([*with_zero(numbers), *[first for first, _ in gaps(numbers)]])
