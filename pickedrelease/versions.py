"""VERSIONs: how they are read, how they are ordered, which one follows.

The package reckons with the place of a VERSION, a tuple
(epoch, numbers, stage, count, post, done, dev). Places compare as VERSIONs do:
numbers are those of the BASE, stage is one of the ranks below, count is the
NUMBER behind "a", "b" or "rc" (else 0), post is -1 without ".post", done is 0
with ".dev" and 1 without, dev is the NUMBER behind ".dev" (else 0).
"""

from pickedrelease.errors import BadVersion

MOST_FIGURES = 24
MOST_NUMBERS = 60
GREATEST = 999999999999999999999999

# The ranks within one BASE: ".dev" alone, "a", "b", "rc" (1 to 3), none of
# these, and a last one that no VERSION has: behind all VERSIONs of the BASE.
DEV_ALONE = 0
MARKS = ("a", "b", "rc")
UNMARKED = 4
BEHIND_ALL = 5


def is_number(text):
    """Whether a text is a NUMBER."""
    if not 1 <= len(text) <= MOST_FIGURES or not text.isascii() or not text.isdigit():
        return False
    return text == "0" or not text.startswith("0")


def split_off(text, mark):
    """What stands ahead of a mark, and what stands behind it, None without the mark."""
    head, found, tail = text.partition(mark)
    return (head, tail) if found else (head, None)


def split_stage(text):
    """What stands ahead of "a", "b" or "rc", the rank of this, and what stands behind it."""
    for rank, mark in enumerate(MARKS, start=1):
        head, tail = split_off(text, mark)
        if tail is not None:
            return head, rank, tail
    return text, UNMARKED, None


def value_or(text, missing):
    """The integer of a NUMBER, or what stands for a missing one."""
    return missing if text is None else int(text)


def read_version(text):
    """The parts (epoch, numbers, stage, count, post, dev) of a VERSION, or None if the text is none.

    The numbers are all that are written, as BLOCKs go by them; a missing post or dev is -1.
    """
    head, dev = split_off(text, ".dev")
    head, post = split_off(head, ".post")
    head, stage, count = split_stage(head)
    epoch, sign, tail = head.rpartition("!")
    if not sign:
        epoch = "0"
    numbers = tail.split(".")
    behind = [part for part in (count, post, dev) if part is not None]
    if len(numbers) > MOST_NUMBERS or not all([is_number(part) for part in [epoch] + numbers + behind]):
        return None
    values = tuple([int(number) for number in numbers])
    return int(epoch), values, stage, value_or(count, 0), value_or(post, -1), value_or(dev, -1)


def without_zeros(numbers):
    """The numbers without those 0 that stand at the end."""
    length = len(numbers)
    while length and numbers[length - 1] == 0:
        length -= 1
    return numbers[:length]


def place_of(parts):
    """The place of a VERSION by its parts."""
    epoch, numbers, stage, count, post, dev = parts
    base = without_zeros(numbers)
    if dev < 0:
        return epoch, base, stage, count, post, 1, 0
    if stage == UNMARKED and post < 0:
        return epoch, base, DEV_ALONE, 0, -1, 0, dev
    return epoch, base, stage, count, post, 0, dev


def first_place(epoch, numbers):
    """The place of the least VERSION of a BASE."""
    return epoch, without_zeros(numbers), DEV_ALONE, 0, -1, 0, 0


def least_place():
    """The place of the least VERSION of all."""
    return first_place(0, ())


def plain_place(epoch, numbers):
    """The place of the PLAIN VERSION of a BASE."""
    return epoch, without_zeros(numbers), UNMARKED, 0, -1, 1, 0


def place_behind(epoch, numbers):
    """The place behind all VERSIONs of a BASE; no VERSION has it."""
    return epoch, without_zeros(numbers), BEHIND_ALL, 0, -1, 1, 0


def next_place(place):
    """The place of the FOLLOWING VERSION."""
    epoch, numbers, stage, count, post, done, dev = place
    if done:
        return epoch, numbers, stage, count, post + 1, 0, 0
    return epoch, numbers, stage, count, post, 0, dev + 1


def previous_place(place):
    """The place of the VERSION that a place FOLLOWS, or None if it FOLLOWS none."""
    epoch, numbers, stage, count, post, done, dev = place
    if done or (dev == 0 and post < 0):
        return None
    if dev == 0:
        return epoch, numbers, stage, count, post - 1, 1, 0
    return epoch, numbers, stage, count, post, 0, dev - 1


def is_final(place):
    """Whether the VERSION of a place is FINAL."""
    return place[2] == UNMARKED and place[5] == 1


def numbers_text(epoch, numbers):
    """The text of an EPOCH and NUMBERs, as they are, without an EPOCH of 0."""
    text = ".".join([str(number) for number in numbers]) if numbers else "0"
    return f"{epoch}!{text}" if epoch else text


def place_text(place):
    """The PLAINEST text of a place; of one behind a BASE that of the BASE."""
    epoch, numbers, stage, count, post, done, dev = place
    text = numbers_text(epoch, numbers)
    if 1 <= stage <= len(MARKS):
        text = f"{text}{MARKS[stage - 1]}{count}"
    if post >= 0:
        text = f"{text}.post{post}"
    return text if done else f"{text}.dev{dev}"


def is_version(thing):
    """Whether a thing is a VERSION."""
    return isinstance(thing, str) and read_version(thing) is not None


def need_version(thing):
    """The thing itself, if it is a VERSION."""
    if not is_version(thing):
        raise BadVersion("no version")
    return thing


def need_place(thing):
    """The place of a thing, if it is a VERSION."""
    return place_of(read_version(need_version(thing)))


def order(one, other):
    """-1, 0 or 1, as one is less than, EQUAL to or greater than other."""
    here = need_place(one)
    there = need_place(other)
    if here == there:
        return 0
    return -1 if here < there else 1


def plainest(version):
    """The PLAINEST text of a VERSION."""
    return place_text(need_place(version))


def following(version):
    """The FOLLOWING VERSION of a VERSION."""
    return place_text(next_place(need_place(version)))


def is_forerunner(version):
    """Whether a VERSION is a FORERUNNER."""
    return not is_final(need_place(version))
