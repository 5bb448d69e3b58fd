"""Notation: logs as lines of words."""

from beadmoot.errors import BadText
from beadmoot.logs import Log
from beadmoot.strands import Strand

MARK_BY_LETTER = {"q": "quiet", "o": "odd", "l": "left", "r": "right", "s": "strife"}


def write_log(log):
    """Return the written form of a log."""
    words = ["alike:" if log.ends_alike else "unlike:"]
    for place, mark in log.entries:
        words.append(f"{place}{mark[0]}")
    return " ".join(words)


def read_entry(word):
    """Return the entry that a word writes, None if the word does not have the form of an entry."""
    places = [str(place) for place in range(1, Strand.MOST - 1)]
    if word[:-1] not in places or word[-1] not in MARK_BY_LETTER:
        return None
    return int(word[:-1]), MARK_BY_LETTER[word[-1]]


def read_log(text):
    """Return the log that a string writes."""
    words = text.split(" ")
    if words[0] not in ("alike:", "unlike:"):
        raise BadText(0)
    entries = [read_entry(word) for word in words[1:]]
    for at, entry in enumerate(entries):
        if entry is None:
            raise BadText(at + 1)
    return Log(entries, ends_alike=words[0] == "alike:")
