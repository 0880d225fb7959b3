"""Point 21: lists of numbers as bytes."""

import random
import unittest
from unittest.mock import ANY

from tests.reference import Hostile
from tornsaves.encoding import decode_crashes, encode_crashes
from tornsaves.errors import DecodeError, InvalidCrashes


def packed(numbers):
    """The bytes of a list of numbers, as a string."""
    return (bytes([len(numbers)]) + b"".join(number.to_bytes(2, "big") for number in numbers)).hex()


def unpacked(text):
    """The list of numbers, or the offset of the fault, read byte by byte."""
    rest = list(bytes.fromhex(text))
    if not rest:
        return 0
    found = []
    for k in range(rest[0]):
        if len(rest) < 3 + 2 * k:
            return len(rest)
        found.append(256 * rest[1 + 2 * k] + rest[2 + 2 * k])
    return found if len(rest) == 1 + 2 * rest[0] else 1 + 2 * rest[0]


class Encode(unittest.TestCase):
    def test_example(self):
        self.assertEqual(encode_crashes([9, 300]), "020009012c")

    def test_texts(self):
        for numbers, text in [
            ([], "00"), ([0], "010000"), ([65535], "01ffff"), ([255, 256], "0200ff0100"), ([0, 65535, 0], "030000ffff0000"),
            ([10, 171, 4095, 43981], "04000a00ab0fffabcd"), ([0] * 255, "ff" + "0000" * 255), ([65535] * 255, "ff" + "ffff" * 255),
            ([1] * 16, "10" + "0001" * 16), (range(0), "00"),
        ]:
            self.assertEqual(encode_crashes(list(numbers)), text)
            self.assertEqual(encode_crashes(tuple(numbers)), text)

    def test_against_bytes(self):
        source = random.Random(1)
        for size in [*range(40), 254, 255]:
            numbers = [source.choice([source.randrange(65536), source.randrange(300)]) for _ in range(size)]
            self.assertEqual(encode_crashes(numbers), packed(numbers))
            self.assertEqual(decode_crashes(encode_crashes(numbers)), numbers)

    def test_all_numbers(self):
        for start in range(0, 65536, 255):
            numbers = list(range(start, min(start + 255, 65536)))
            self.assertEqual(decode_crashes(encode_crashes(numbers)), numbers)

    def assertIndex(self, index, value):
        with self.assertRaises(InvalidCrashes) as caught:
            encode_crashes(value)
        self.assertEqual(caught.exception.index, index)

    def test_values_that_are_no_lists(self):
        for value in [
            None, True, 0, 5, "", "00", b"", b"\x00", {}, {1: 2}, set(), frozenset(), object(), range(3), iter([1]), len, ANY,
            Hostile(), [0] * 256, (0,) * 256, [None] * 256, [1] * 1000,
        ]:
            self.assertIndex(None, value)

    def test_items_that_are_no_numbers(self):
        for value in [None, True, False, -1, 65536, 10 ** 30, "5", b"5", "", [], [5], (), (5,), {}, object(), ANY, Hostile()]:
            self.assertIndex(0, [value])
            self.assertIndex(0, (value, value, None))
            self.assertIndex(2, [0, 65535, value])
            self.assertIndex(254, [1] * 254 + [value])

    def test_arguments_are_not_changed(self):
        numbers = [9, 300]
        encode_crashes(numbers)
        self.assertEqual(numbers, [9, 300])


class Decode(unittest.TestCase):
    def test_lists(self):
        for text, numbers in [
            ("020009012c", [9, 300]), ("00", []), ("010000", [0]), ("01ffff", [65535]), ("0200ff0100", [255, 256]),
            ("ff" + "0001" * 255, [1] * 255), ("0aabcd" + "00" * 18, [43981] + [0] * 9),
        ]:
            self.assertEqual(decode_crashes(text), numbers)
            self.assertEqual(encode_crashes(decode_crashes(text)), text)

    def test_answers_are_new(self):
        decode_crashes("020009012c").clear()
        self.assertEqual(decode_crashes("020009012c"), [9, 300])
        self.assertIsNot(decode_crashes("00"), decode_crashes("00"))

    def assertOffset(self, offset, value):
        with self.assertRaises(DecodeError) as caught:
            decode_crashes(value)
        self.assertEqual(caught.exception.offset, offset)

    def test_values_of_other_kinds(self):
        for value in [None, True, 0, b"", b"00", [], ["00"], ("00",), {}, {"00": 1}, set(), object(), len, ANY, Hostile()]:
            self.assertOffset(None, value)

    def test_strings_that_are_no_pairs_of_digits(self):
        for text in [
            "0", "000", "01000", "0100000", "0G", "g0", "FF", "01FFFF", "01fffF", "00 ", " 00", "0 ", "00 00", "0x", "0x00", "00\n",
            "\n0", "-1", "+1", "1_", "1_1_", "01ff\u0666\u0666", "\u0660\u0660", "\uff10\uff10", "0\u00b2", "\u00e9\u00e9", "zz", "020009012",
            "020009012c0", "00zz", "ffzz", "..",
        ]:
            self.assertOffset(None, text)

    def test_too_few_bytes(self):
        for text, offset in [("", 0), ("01", 1), ("0100", 2), ("020009", 3), ("02000901", 4), ("ff", 1), ("ff" + "00" * 509, 510)]:
            self.assertOffset(offset, text)

    def test_too_many_bytes(self):
        for text, offset in [("0000", 1), ("00" * 9, 1), ("01000000", 3), ("020009012c0a", 5), ("ff" + "00" * 511, 511), ("00ff", 1)]:
            self.assertOffset(offset, text)

    def test_against_bytes(self):
        source = random.Random(2)
        for _ in range(3000):
            size = source.randrange(12)
            first = [source.choice([max(0, size - 1) // 2, source.randrange(6), 255])][:size]
            text = bytes(first + [source.randrange(256) for _ in range(size - 1)]).hex()
            known = unpacked(text)
            if isinstance(known, list):
                self.assertEqual(decode_crashes(text), known)
            else:
                self.assertOffset(known, text)
