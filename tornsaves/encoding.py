"""Lists of numbers as strings of hexadecimal digits."""

from tornsaves.errors import DecodeError, InvalidCrashes
from tornsaves.programs import is_number

DIGITS = "0123456789abcdef"
MOST_ITEMS = 255
MOST_ITEM = 65535


def encode_crashes(crashes):
    """The string that encodes a list or tuple of numbers: their count, then each number."""
    if not isinstance(crashes, (list, tuple)) or len(crashes) > MOST_ITEMS:
        raise InvalidCrashes(None)
    for index, item in enumerate(crashes):
        if not is_number(item, MOST_ITEM):
            raise InvalidCrashes(index)
    return f"{len(crashes):02x}" + "".join([f"{item:04x}" for item in crashes])


def _are_bytes(text):
    """Whether a value of any kind is a string of pairs of digits."""
    if not isinstance(text, str) or not all([digit in DIGITS for digit in text]):
        return False
    return len(text) == len(text) // 2 * 2


def decode_crashes(text):
    """The list of the numbers that a string encodes."""
    if not _are_bytes(text):
        raise DecodeError(None)
    many = len(text) // 2
    if many == 0:
        raise DecodeError(0)
    required = 1 + 2 * int(text[:2], 16)
    if many < required:
        raise DecodeError(many)
    if many > required:
        raise DecodeError(required)
    return [int(text[at:at + 4], 16) for at in range(2, len(text), 4)]
