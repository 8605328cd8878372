"""VERSIONs: how they are read, how they are ordered, which one follows.

The package reckons with the place of a VERSION, a tuple
(epoch, numbers, stage, count, post, done, dev). Places compare as VERSIONs do:
numbers are those of the BASE, stage is one of the ranks below, count is the
NUMBER behind "a", "b" or "rc" (else 0), post is -1 without ".post", done is 0
with ".dev" and 1 without, dev is the NUMBER behind ".dev" (else 0).
"""

from pickedrelease.errors import BadVersion

MOST_FIGURES = 24
MOST_NUMBERS = 60
GREATEST = 999999999999999999999999

# So long are as many NUMBERs as a VERSION can have, with "." between.
MOST_CHARACTERS = 1499

# The ranks within one BASE: ".dev" alone, "a", "b", "rc" (1 to 3), none of
# these, and a last one that no VERSION has: behind all VERSIONs of the BASE.
DEV_ALONE = 0
MARKS = ("a", "b", "rc")
UNMARKED = 4
BEHIND_ALL = 5


def read_number(text):
    """The integer of a NUMBER, or None if a text is none."""
    if not text.isdigit() or not text.isascii() or len(text) > MOST_FIGURES or (text[0] == "0" and text != "0"):
        return None
    return int(text)


def read_numbers(text):
    """The integers of NUMBERs with "." between, or None if a text has another form.

    They may be too many, or too great.
    """
    if len(text) > MOST_CHARACTERS or not text.isascii():
        return None
    numbers = text.split(".")
    if not numbers[-1].isdigit():
        # Most texts with more than NUMBERs end here.
        return None
    values = tuple([int(number) for number in numbers if number.isdigit()])
    if len(values) < len(numbers):
        return None
    if (text[0] == "0" or ".0" in text) and [number for number in numbers if number[0] == "0" and number != "0"]:
        return None
    return values


def split_off(text, mark):
    """What stands ahead of a mark, and the integer behind it: -1 without the mark, None if it is no NUMBER."""
    head, found, tail = text.partition(mark)
    return head, read_number(tail) if found else -1


def split_stage(text):
    """What stands ahead of "a", "b" or "rc", the rank of this, and the integer behind it, None if it is no NUMBER."""
    for rank, mark in enumerate(MARKS, start=1):
        if mark in text:
            head, count = split_off(text, mark)
            return head, rank, count
    return text, UNMARKED, 0


def read_marked(text, most_numbers, greatest):
    """As read_version, of a text that is more than NUMBERs."""
    head, dev = split_off(text, ".dev")
    head, post = split_off(head, ".post")
    head, stage, count = split_stage(head)
    before, sign, behind = head.rpartition("!")
    epoch = read_number(before) if sign else 0
    numbers = read_numbers(behind)
    if numbers is None or None in (epoch, count, post, dev):
        return None
    if len(numbers) > most_numbers or max(epoch, count, post, dev, *numbers) > greatest:
        return None
    return epoch, numbers, stage, count, post, dev


def read_version(text, most_numbers=MOST_NUMBERS, greatest=GREATEST):
    """The parts (epoch, numbers, stage, count, post, dev) of a VERSION, or None if the text is none.

    The numbers are all that are written, as BLOCKs go by them; a missing post
    or dev is -1. A VERSION with more NUMBERs or greater numbers counts as none.
    """
    numbers = read_numbers(text)
    if numbers is None:
        return read_marked(text, most_numbers, greatest)
    if len(numbers) > most_numbers or max(numbers) > greatest:
        return None
    return 0, numbers, UNMARKED, 0, -1, -1


def without_zeros(numbers):
    """The numbers without those 0 that stand at the end."""
    length = len(numbers)
    while length and numbers[length - 1] == 0:
        length -= 1
    return numbers[:length]


def place_of(parts):
    """The place of a VERSION by its parts."""
    epoch, numbers, stage, count, post, dev = parts
    base = numbers if numbers[-1] else without_zeros(numbers)
    if dev < 0:
        return epoch, base, stage, count, post, 1, 0
    if stage == UNMARKED and post < 0:
        return epoch, base, DEV_ALONE, 0, -1, 0, dev
    return epoch, base, stage, count, post, 0, dev


def first_place(epoch, numbers):
    """The place of the least VERSION of a BASE."""
    return epoch, without_zeros(numbers), DEV_ALONE, 0, -1, 0, 0


def least_place():
    """The place of the least VERSION of all."""
    return first_place(0, ())


def plain_place(epoch, numbers):
    """The place of the PLAIN VERSION of a BASE."""
    return epoch, without_zeros(numbers), UNMARKED, 0, -1, 1, 0


def place_behind(epoch, numbers):
    """The place behind all VERSIONs of a BASE; no VERSION has it."""
    return epoch, without_zeros(numbers), BEHIND_ALL, 0, -1, 1, 0


def next_place(place):
    """The place of the FOLLOWING VERSION."""
    epoch, numbers, stage, count, post, done, dev = place
    if done:
        return epoch, numbers, stage, count, post + 1, 0, 0
    return epoch, numbers, stage, count, post, 0, dev + 1


def previous_place(place):
    """The place of the VERSION that a place FOLLOWS, or None if it FOLLOWS none."""
    epoch, numbers, stage, count, post, done, dev = place
    if done or (dev == 0 and post < 0):
        return None
    if dev == 0:
        return epoch, numbers, stage, count, post - 1, 1, 0
    return epoch, numbers, stage, count, post, 0, dev - 1


def is_final(place):
    """Whether the VERSION of a place is FINAL."""
    return place[2] == UNMARKED and place[5] == 1


def numbers_text(epoch, numbers):
    """The text of an EPOCH and NUMBERs, as they are, without an EPOCH of 0."""
    text = ".".join(map(str, numbers)) if numbers else "0"
    return f"{epoch}!{text}" if epoch else text


def place_text(place):
    """The PLAINEST text of a place; of one behind a BASE that of the BASE."""
    epoch, numbers, stage, count, post, done, dev = place
    text = numbers_text(epoch, numbers)
    if 1 <= stage <= len(MARKS):
        text = f"{text}{MARKS[stage - 1]}{count}"
    if post >= 0:
        text = f"{text}.post{post}"
    return text if done else f"{text}.dev{dev}"


def is_version(thing):
    """Whether a thing is a VERSION."""
    return isinstance(thing, str) and read_version(thing) is not None


def need_version(thing):
    """The thing itself, if it is a VERSION."""
    if not is_version(thing):
        raise BadVersion("no version")
    return thing


def need_place(thing):
    """The place of a thing, if it is a VERSION."""
    parts = read_version(thing) if isinstance(thing, str) else None
    if parts is None:
        raise BadVersion("no version")
    return place_of(parts)


def order(one, other):
    """-1, 0 or 1, as one is less than, EQUAL to or greater than other."""
    here = need_place(one)
    there = need_place(other)
    if here == there:
        return 0
    return -1 if here < there else 1


def plainest(version):
    """The PLAINEST text of a VERSION."""
    return place_text(need_place(version))


def following(version):
    """The FOLLOWING VERSION of a VERSION."""
    return place_text(next_place(need_place(version)))


def is_forerunner(version):
    """Whether a VERSION is a FORERUNNER."""
    return not is_final(need_place(version))
