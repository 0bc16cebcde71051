"""Lists from whose end things are taken."""


def taken_off(heap, count):
    backward = [heap.pop() for turn in range(count)]
    return list(reversed(backward))
