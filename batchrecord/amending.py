"""Amendments of signatures, and the entries as they stood at any time."""

from batchrecord.showing import listed
from batchrecord.state import AMENDMENT, SIGNATURE, Entry, put_entry


def is_signature(record, number):
    """Whether a number is that of an entry that is a signature."""
    return 0 <= number < len(record.entries) and record.entries[number].kind == SIGNATURE


def amendment_count(record):
    """How many amendments there are."""
    return len([entry for entry in record.entries if entry.kind == AMENDMENT])


def amends(entry, number):
    """Whether an entry amends the signature with this number."""
    return entry.kind == AMENDMENT and entry.target == number


def amendments_of(record, number):
    """The numbers of the entries that amend a signature, rising."""
    return [each for each, entry in enumerate(record.entries) if amends(entry, number)]


def text_as_of(record, number, count):
    """The text of a signature as of the first so many entries."""
    text = []
    for entry in record.entries[:count]:
        if amends(entry, number):
            text = entry.text
    return text


def viewed(record, count):
    """The first so many entries as they stand in an answer."""
    answer = []
    for number, entry in enumerate(record.entries[:count]):
        text = text_as_of(record, number, count) if entry.kind == SIGNATURE else entry.text
        answer.extend([entry.kind, entry.target, entry.person] + listed(text))
    return answer


def put_amendment(record, number, person, text):
    """Make an amendment an entry, and give the entry's number."""
    return put_entry(record, Entry(AMENDMENT, number, person, text))
