"""Sequences of empty posts in each of which every post is open when it is its turn.

Such sequences are counted by their lengths. All posts below an empty post are empty, so what can
follow a post does not depend on how it came to be open. These functions trust their arguments.
"""

from movingup.tallies import mixed, unmixed


def numbers_behind(chart):
    """Return for each post the tally of the sequences of posts below it, without itself."""
    behind = [[1] for k in chart]
    for k in range(len(chart) - 1, 0, -1):
        behind[chart[k]] = mixed(behind[chart[k]], [1] + behind[k])
    return behind


def all_mixed(behind, ready):
    """Return the tally of the sequences that begin with any of the open posts."""
    numbers = [1]
    for post in ready:
        numbers = mixed(numbers, [1] + behind[post])
    return numbers


def numbers_after(behind, numbers, post):
    """Return the tally of the sequences that can follow one of the open posts."""
    return mixed(unmixed(numbers, [1] + behind[post]), behind[post])


def opened(under, ready, post):
    """Return the posts that are open after one of them was taken."""
    return sorted([k for k in ready if k != post] + under[post])


def sequence_at(chart, under, ready, length, index):
    """Return the sequence of so many posts with this index in the sorted list of all of them."""
    behind = numbers_behind(chart)
    numbers = all_mixed(behind, ready)
    sequence = []
    while len(sequence) < length:
        left = length - len(sequence) - 1
        for post in ready:
            after = numbers_after(behind, numbers, post)
            if index < after[left]:
                break
            index -= after[left]
        sequence.append(post)
        numbers = after
        ready = opened(under, ready, post)
    return sequence


def sequence_index(chart, under, ready, sequence):
    """Return the index of a sequence in the sorted list of all sequences of as many posts."""
    behind = numbers_behind(chart)
    numbers = all_mixed(behind, ready)
    index = 0
    for k, post in enumerate(sequence):
        left = len(sequence) - k - 1
        for other in ready:
            if other < post:
                index += numbers_after(behind, numbers, other)[left]
        numbers = numbers_after(behind, numbers, post)
        ready = opened(under, ready, post)
    return index
