"""What several tests share: VERSIONs in their order, a reckoning by points [6] and [7], and wrong values."""

import functools
import re

BASES = ("0", "0.0.0.1", "0.0.1", "0.1", "1", "1.0.0.1", "1.0.1", "1.1", "1.1.1", "1.2", "1.10", "2", "10", "1!0",
         "1!0.1", "1!1", "1!1.4", "2!0")
AHEAD = (".dev0", ".dev1", ".dev2")
MARKED = ("a0", "a1", "a2", "b0", "b1", "rc0", "rc1", "rc2")
ROW = (".dev0", ".dev1", "", ".post0.dev0", ".post0.dev1", ".post0", ".post1.dev0", ".post1.dev1", ".post1")


def rows_of(base):
    """VERSIONs of one BASE in the order of point [3], by their PLAINEST texts."""
    told = [base + end for end in AHEAD]
    for mark in MARKED:
        told += [base + mark + end for end in ROW]
    return told + [base + end for end in ROW if end not in AHEAD]


ASCENDING = [version for base in BASES for version in rows_of(base)]
SOME_BASES = ("0", "0.0.1", "0.1", "1", "1.0.1", "1.1", "1.2", "2", "1!0", "1!1")
SOME_ENDS = (".dev0", ".dev1", "a0.dev0", "a0", "a0.post0", "a1", "b0", "rc0", "", ".post0.dev0", ".post0",
             ".post1.dev0", ".post1")
SOME = [base + end for base in SOME_BASES for end in SOME_ENDS]
RANK = {version: rank for rank, version in enumerate(ASCENDING)}

FORM = re.compile(r"(?:(\d+)!)?(\d+(?:\.\d+)*)(.*)")


def split(version):
    """The EPOCH, the NUMBERs as they are written, and the text behind them."""
    epoch, numbers, behind = FORM.fullmatch(version).groups()
    return int(epoch or 0), [int(number) for number in numbers.split(".")], behind


def rank(version):
    """The place of a VERSION among ASCENDING."""
    epoch, numbers, behind = split(version)
    while len(numbers) > 1 and numbers[-1] == 0:
        numbers.pop()
    return RANK[(f"{epoch}!" if epoch else "") + ".".join(map(str, numbers)) + behind]


def in_block(version, block):
    """Whether a VERSION is in the BLOCK of a PLAIN VERSION."""
    epoch, numbers, _ = split(version)
    block_epoch, block_numbers, _ = split(block)
    padded = numbers + [0] * len(block_numbers)
    return epoch == block_epoch and padded[:len(block_numbers)] == block_numbers


def base_ranks(version):
    """The places of all VERSIONs of ASCENDING with the BASE of a PLAIN VERSION."""
    base = ASCENDING[rank(version)]
    return [RANK[other] for other in rows_of(base)]


def without_last(version):
    """The EPOCH and the NUMBERs of a VERSION without the last one."""
    epoch, numbers, _ = split(version)
    return f"{epoch}!" + ".".join(map(str, numbers[:-1]))


def clause_lets_in(clause, version):
    """Whether a CLAUSE with a VERSION of ASCENDING lets one of them in, by the words of point [6]."""
    sign, text = clause
    here = rank(version)
    if text.endswith(".*"):
        return in_block(version, text[:-2]) == (sign == "==")
    if sign == "<":
        return here < min(base_ranks(text))
    if sign == ">":
        return here > max(base_ranks(text))
    if sign == "~=":
        return here >= rank(text) and in_block(version, without_last(text))
    return {">=": here >= rank(text), "<=": here <= rank(text),
            "==": here == rank(text), "!=": here != rank(text)}[sign]


PARTS = re.compile(r"(?:(\d+)!)?(\d+(?:\.\d+)*)(?:(a|b|rc)(\d+))?(?:\.post(\d+))?(?:\.dev(\d+))?")
LAST = float("inf")


@functools.lru_cache(maxsize=None)
def key(version):
    """What any VERSION compares by, also one that is not among ASCENDING."""
    epoch, numbers, mark, count, post, dev = PARTS.fullmatch(version).groups()
    base = [int(number) for number in numbers.split(".")]
    while base and base[-1] == 0:
        base.pop()
    stage = (mark, int(count)) if mark else ("z", 0)
    if dev and not mark and not post:
        stage = ("", 0)
    return int(epoch or 0), tuple(base), stage, int(post) if post else -1, int(dev) if dev else LAST


def is_unfinished(version):
    """Whether a VERSION is a FORERUNNER."""
    return any(mark in version for mark in ("a", "b", "rc", ".dev"))


@functools.lru_cache(maxsize=None)
def takes_in(clause, version):
    """Whether a CLAUSE lets any VERSION in, by the words of point [6]."""
    sign, text = clause
    if text.endswith(".*"):
        return in_block(version, text[:-2]) == (sign == "==")
    here, there = key(version), key(text)
    return {
        ">=": here >= there,
        "<=": here <= there,
        "==": here == there,
        "!=": here != there,
        "<": here[:2] < there[:2],
        ">": here[:2] > there[:2],
        "~=": here >= there and "." in text and in_block(version, without_last(text)),
    }[sign]


def all_take_in(requirement, version):
    """Whether a REQUIREMENT lets any VERSION in."""
    return all(takes_in(clause, version) for clause in requirement)


def has_name(requirement):
    """Whether a REQUIREMENT NAMES."""
    return any(sign != "!=" and is_unfinished(text) for sign, text in requirement)


def has_pinned(requirement, version):
    """Whether a REQUIREMENT PINS a VERSION."""
    return any(sign == "==" and not text.endswith("*") and key(text) == key(version) for sign, text in requirement)


def all_candidates(requirement, releases):
    """The CANDIDATEs, by the words of point [7]."""
    return [version for version, withdrawn in releases
            if all_take_in(requirement, version) and (not withdrawn or has_pinned(requirement, version))]


def picked(requirement, releases):
    """The PICK, by the words of point [7]."""
    told = all_candidates(requirement, releases)
    if not has_name(requirement):
        told = [version for version in told if not is_unfinished(version)] or told
    return max(told, key=key, default=None)


def clauses_of(plain, ends):
    """All CLAUSEs with some PLAIN VERSIONs, and with some ends behind them."""
    told = [(sign, text) for text in plain for sign in ("<", ">")]
    told += [(sign, text + ".*") for text in plain for sign in ("==", "!=")]
    told += [(sign, text + end) for text in plain for end in ends for sign in (">=", "<=", "==", "!=")]
    return told + [("~=", text + end) for text in plain for end in ends if "." in text]


UNIVERSE_ENDS = (".dev0", ".dev1", ".dev2", "a0.dev0", "a0.dev1", "a0", "a0.post0.dev0", "a0.post0", "a0.post1",
                 "a1.dev0", "a1", "rc0", "rc1", "", ".post0.dev0", ".post0.dev1", ".post0.dev2", ".post0",
                 ".post1.dev0", ".post1", ".post2")


class Universe:
    """VERSIONs, and what REQUIREMENTs do with them, by the words of points [6] and [9]."""

    def __init__(self, bases, more=()):
        versions = [base + end for base in bases for end in UNIVERSE_ENDS] + list(more)
        self.versions = sorted({key(version): version for version in versions}.values(), key=key)
        self.masks = {}
        self.finals = self.mask_of(lambda version: not is_unfinished(version))
        self.all = (1 << len(self.versions)) - 1

    def mask_of(self, is_in):
        return sum(1 << at for at, version in enumerate(self.versions) if is_in(version))

    def mask(self, clause):
        """The VERSIONs that a CLAUSE lets in, as bits."""
        if clause not in self.masks:
            self.masks[clause] = self.mask_of(lambda version: takes_in(clause, version))
        return self.masks[clause]

    def picks(self, clauses):
        """What REQUIREMENTs that PICK ALIKE have in common: VERSIONs, whether a pin counts, whether NAMES does."""
        inside = self.all
        for clause in clauses:
            inside &= self.mask(clause)
        if not inside:
            return 0, False, False
        pinning = any(sign == "==" and not text.endswith("*") for sign, text in clauses)
        finals, others = inside & self.finals, inside & ~self.finals
        felt = bool(finals) and (finals & -finals) < others
        return inside, pinning, felt and has_name(clauses)


class Plain:
    """An object of no kind that is wanted."""


class Unequal:
    """An object that cannot be compared, counted or told."""

    __hash__ = None

    def __eq__(self, other):
        raise RuntimeError("compared")

    def __len__(self):
        raise RuntimeError("counted")

    def __bool__(self):
        raise RuntimeError("tested")

    def __repr__(self):
        raise RuntimeError("told")

    __str__ = __repr__


def a_function():
    """A function, as a value of another kind."""


def no_strings():
    """Values that are no strings, and no tuples of CLAUSEs either."""
    return [None, True, False, 0, 1, -1, 10 ** 30, b"1", b"", b">=1", bytearray(b"1"), [], ["1"], ("1",), ("1", "2"),
            {}, {"1": "2"}, {"1"}, frozenset(["1"]), range(3), iter("1"), Plain(), Plain, Unequal(), a_function, len,
            str, lambda: "1", NotImplemented, ...]


def long_version(count, last="1"):
    """A VERSION with so many NUMBERs."""
    return ".".join(["1"] * (count - 1) + [last])


BAD_VERSIONS = (
    "", " ", "\n", ".", "!", "*", "a", "x", "-", "1 ", " 1", "1\n", "\n1", "1\n.0", "1.0\n", "1 .0", "1. 0",
    "01", "00", "1.01", "1.00", "01!1", "00!1", "1a01", "1a00", "1b01", "1rc01", "1.post01", "1.dev01", "1.dev00",
    ".1", "1.", "1..2", "1!", "!1", "1!!2", "1!2!3", "1!.1", "1.!1", "1.1!1", "1a1!1",
    "1a", "1b", "1rc", "1.post", "1.dev", "1.a1", "1.b1", "1.rc1", "1a.1", "1post1", "1dev1", "1..post1", "1..dev1",
    "1r1", "1c1", "1alpha1", "1beta1", "1rev1", "1A1", "1B1", "1RC1", "1.POST1", "1.Dev1", "1pre1", "1ra1", "1aa1",
    "1.dev1.post1", "1.dev1a1", "1.post1a1", "1.post1b1", "1.post1rc1", "1.dev1rc1", "1.post1.1", "1.dev1.1", "1a1.1",
    "1a1a1", "1a1b1", "1b1a1", "1b1rc1", "1rc1b1", "1rc1a1", "1rc1rc1", "1.post1.post1", "1.dev1.dev1",
    "1.post1.post2.dev1", "1.dev1.post1.dev1", "a1", "rc1", ".post1", ".dev1", "post1", "dev1", "1!a1", "1!.dev1",
    "-1", "+1", "1.-1", "1.+1", "1a-1", "1.post-1", "1.dev+1", "-1!1", "1.post1-1", "1-1", "1+1", "1+local", "v1",
    "1.0-alpha.1", "1_0", "1.1_0", "1a1_0", "1,1", "1.*", "1.0.*", "==1", ">=1", "1e1", "0x1", "1l", "1/2", "(1)",
    "None", "1.1x", "1x.1", "1.post1x", "1.dev1x", "1.dev 1", "1.dev1 ", "1a 1", "1.dev1\n", "1a1\n", "1.post1\n",
)
