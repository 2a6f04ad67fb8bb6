"""Points 13.1 and 13.2: rows and disks."""

import unittest
import zlib

from nearpapers.disks import Disk, kept_register, mark, register_of, row_of
from nearpapers.errors import NoBlocks, NoCut, NoRegister, NoRow
from tests.healing import plain_mark, plain_register, plain_row
from tests.helper import dice_of, nested, odd_things
from tests.test_registers import NO_REGISTERS

REGISTERS = [(0, 0, 0, 0), (999999, 999, 999999, 999), (9, 1, 5, 3), (256, 255, 65536, 257), (999999, 0, 0, 1)]
NO_BYTES = [thing for thing in odd_things() if not isinstance(thing, bytes)]


def drawn_row(dice, most):
    return bytes([dice.randrange(256) for _ in range(dice.randrange(most + 1))])


class RowsTest(unittest.TestCase):
    def test_mark(self):
        dice = dice_of(131)
        rows = [b"", b"\x00", b"\xff", b"\x00" * 16, b"\xff" * 20000, b"\x00" * 20000, bytes(range(256)) * 78]
        for row in rows + [drawn_row(dice, 400) for _ in range(100)] + [drawn_row(dice, 20000) for _ in range(5)]:
            self.assertEqual(mark(row), plain_mark(row))
            self.assertEqual(mark(row), zlib.adler32(row))
        self.assertEqual((mark(b""), mark(b"\x01"), mark(b"\x01\x02")), (1, 2 + 65536 * 2, 4 + 65536 * 6))

    def test_no_row(self):
        for thing in [b"\x00" * 20001, bytes(30000), "", "ab", [0], (0,), 0, *NO_BYTES]:
            with self.assertRaises(NoRow):
                mark(thing)
        self.assertEqual(mark(b"\x00" * 20000), 1 + 65536 * 20000)

    def test_row_of(self):
        dice = dice_of(132)
        drawn = [(dice.randrange(1000000), dice.randrange(1000), dice.randrange(1000000), dice.randrange(1000))
                 for _ in range(200)]
        for register in REGISTERS + drawn:
            row = row_of(register)
            self.assertIsInstance(row, bytes)
            self.assertEqual(len(row), 20)
            self.assertEqual(row, plain_row(register))
            self.assertEqual(register_of(row), (register,))
        self.assertEqual(row_of((1, 2, 3, 4)), b"\x01\x00\x00\x00\x02\x00\x00\x00\x03\x00\x00\x00\x04\x00\x00\x00"
                         + mark(b"\x01\x00\x00\x00\x02\x00\x00\x00\x03\x00\x00\x00\x04\x00\x00\x00").to_bytes(4, "little"))

    def test_no_register(self):
        for thing in [*NO_REGISTERS, *odd_things()]:
            with self.assertRaises(NoRegister):
                row_of(thing)

    def test_register_of_spoilt_rows(self):
        dice = dice_of(133)
        for register in REGISTERS:
            row = row_of(register)
            for at in range(20):
                for change in (1, 128, dice.randrange(1, 256)):
                    spoilt = row[:at] + bytes([(row[at] + change) % 256]) + row[at + 1:]
                    self.assertEqual(register_of(spoilt), ())
                    self.assertIsNone(plain_register(spoilt))
            for other in [row[:19], row[1:], row + b"\x00", b"", row * 2, row[::-1], row.hex(), bytearray(row), list(row),
                          tuple(row), (row,), memoryview(row), register]:
                self.assertEqual(register_of(other), ())
        for thing in odd_things():
            self.assertEqual(register_of(thing), ())

    def test_rows_with_right_marks_of_no_registers(self):
        for numbers in [(1000000, 0, 0, 0), (0, 1000, 0, 0), (0, 0, 1000000, 0), (0, 0, 0, 1000), (2 ** 32 - 1,) * 4]:
            front = b"".join([number.to_bytes(4, "little") for number in numbers])
            self.assertEqual(register_of(front + mark(front).to_bytes(4, "little")), ())
        front = b"".join([number.to_bytes(4, "big") for number in (0, 0, 0, 1)])
        self.assertEqual(register_of(front + mark(front).to_bytes(4, "little")), ())
        front = bytes(16)
        self.assertEqual(register_of(front + mark(front).to_bytes(4, "big")), ())
        self.assertEqual(register_of(front + mark(front).to_bytes(4, "little")), ((0, 0, 0, 0),))

    def test_kept_register(self):
        one, other = row_of(REGISTERS[1]), row_of(REGISTERS[2])
        for blocks, told in [
                ([], None), ([one], REGISTERS[1]), ([one, other], REGISTERS[2]), ([other, one], REGISTERS[1]),
                ([one, b""], REGISTERS[1]), ([one, other[:19], b"\x00" * 20000], REGISTERS[1]), ([b"", b"abc"], None),
                ([other[:19]], None), ([one, other[:10], other[10:]], REGISTERS[1])]:
            self.assertEqual(kept_register(blocks), told)
        dice = dice_of(134)
        for _ in range(100):
            blocks = []
            for _ in range(dice.randrange(6)):
                row = row_of(dice.choice(REGISTERS))
                blocks.append(dice.choice([row, row[:dice.randrange(20)], b"", drawn_row(dice, 40)]))
            good = [plain_register(row) for row in blocks if plain_register(row) is not None]
            self.assertEqual(kept_register(blocks), good[-1] if good else None)

    def test_no_blocks(self):
        row = row_of(REGISTERS[0])
        bad = [(), (row,), None, row, [row, None], [None, row], [bytearray(row)], [row, "a"], [[row]], [0], {}, [True],
               [b"\x00" * 20001], [row, b"\x00" * 20001], [(row,)], [REGISTERS[0]]]
        for thing in bad + [thing for thing in odd_things() if thing != []]:
            with self.assertRaises(NoBlocks):
                kept_register(thing)
        for thing in NO_BYTES:
            with self.assertRaises(NoBlocks):
                kept_register([row, thing])


class DiskTest(unittest.TestCase):
    def test_empty(self):
        disk = Disk()
        self.assertEqual((disk.blocks(), disk.synced(), disk.sync()), ([], 0, 0))
        self.assertIsNone(disk.cut(()))
        self.assertEqual((disk.blocks(), disk.synced()), ([], 0))

    def test_writes_and_cuts(self):
        disk = Disk()
        self.assertEqual([disk.write(b"abc"), disk.write(b""), disk.write(b"x" * 40)], [0, 1, 2])
        self.assertEqual((disk.blocks(), disk.synced()), ([b"abc", b"", b"x" * 40], 0))
        self.assertEqual(disk.sync(), 3)
        self.assertEqual(disk.sync(), 0)
        self.assertEqual([disk.write(b"12345"), disk.write(b"67"), disk.write(b"8")], [3, 4, 5])
        self.assertEqual(disk.synced(), 3)
        disk.cut((2, 0, 1))
        # What was cut to nothing is an empty row, and still a block.
        self.assertEqual(disk.blocks(), [b"abc", b"", b"x" * 40, b"12", b"", b"8"])
        self.assertEqual(disk.synced(), 6)
        self.assertEqual(disk.write(b"9"), 6)
        disk.cut((1,))
        self.assertEqual((disk.blocks()[6], disk.synced()), (b"9", 7))

    def test_no_row(self):
        disk = Disk()
        disk.write(b"a")
        for thing in [b"\x00" * 41, bytes(20000), "a", [1], *NO_BYTES]:
            with self.assertRaises(NoRow):
                disk.write(thing)
            self.assertEqual((disk.blocks(), disk.synced()), ([b"a"], 0))

    def test_no_cut(self):
        disk = Disk()
        disk.write(b"safe")
        disk.sync()
        disk.write(b"ab")
        disk.write(b"")
        bad = [(), (0,), (0, 0, 0), (3, 0), (2, 1), (-1, 0), (0, True), (False, 0), (True, 0), [0, 0], (0, None), 0, None,
               (4, 2, 0), ("1", 0), ((0, 0),), (b"a", b"")]
        for thing in bad + odd_things():
            with self.assertRaises(NoCut):
                disk.cut(thing)
            self.assertEqual((disk.blocks(), disk.synced()), ([b"safe", b"ab", b""], 1))
        disk.cut((2, 0))
        self.assertEqual((disk.blocks(), disk.synced()), ([b"safe", b"ab", b""], 3))

    def test_blocks_are_new(self):
        disk = Disk()
        disk.write(b"a")
        disk.blocks().append(b"b")
        disk.blocks()[0] = b"c"
        self.assertEqual(disk.blocks(), [b"a"])

    def test_equal_to_nothing_else(self):
        disk = Disk()
        self.assertTrue(disk == disk)
        for thing in [[], (), disk.blocks(), *[thing for thing in odd_things() if not isinstance(thing, Disk)]]:
            self.assertFalse(disk == thing)

    def test_long_rows_of_doings(self):
        dice = dice_of(135)
        disk, safe, waiting = Disk(), [], []
        copies = []
        for step in range(3000):
            doing = dice.randrange(20)
            if doing < 10:
                row = drawn_row(dice, 40)
                self.assertEqual(disk.write(row), len(safe) + len(waiting))
                waiting.append(row)
            elif doing < 13:
                self.assertEqual(disk.sync(), len(waiting))
                safe, waiting = safe + waiting, []
            elif doing < 16:
                kept = tuple([dice.choice([0, len(row), dice.randrange(len(row) + 1)]) for row in waiting])
                self.assertIsNone(disk.cut(kept))
                safe, waiting = safe + [row[:many] for row, many in zip(waiting, kept)], []
            elif doing < 18:
                bad = tuple([len(row) for row in waiting[:-1]]) + (41,)
                with self.assertRaises(NoCut):
                    disk.cut(bad)
                with self.assertRaises(NoRow):
                    disk.write(bytes(41))
            else:
                copies.append((disk.copy(), list(safe), list(waiting)))
                if len(copies) > 6:
                    # Go on with an elder copy, and keep the one that was gone on with.
                    copies.append((disk, safe, waiting))
                    disk, safe, waiting = copies.pop(dice.randrange(len(copies)))
                    copies = copies[-6:]
            self.assertEqual((disk.blocks(), disk.synced()), (safe + waiting, len(safe)))
            for other, its_safe, its_waiting in copies:
                self.assertEqual((other.blocks(), other.synced()), (its_safe + its_waiting, len(its_safe)))
            if len(safe) > 60:
                disk, safe, waiting = Disk(), [], []

    def test_a_copy_waits_as_its_disk(self):
        disk = Disk()
        disk.write(b"abc")
        other = disk.copy()
        disk.cut((1,))
        self.assertEqual((other.blocks(), other.synced()), ([b"abc"], 0))
        other.cut((2,))
        self.assertEqual((disk.blocks(), other.blocks()), ([b"a"], [b"ab"]))
        self.assertEqual(other.copy().blocks(), [b"ab"])
        with self.assertRaises(NoCut):
            other.cut(nested(0, 40, tuple))


if __name__ == "__main__":
    unittest.main()
