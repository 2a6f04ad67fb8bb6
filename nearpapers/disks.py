"""Rows of bytes that hold registers, and disks that lose what was not yet safe."""

from nearpapers.errors import NoBlocks, NoCut, NoRegister, NoRow
from nearpapers.plain import is_between
from nearpapers.registers import is_register

MOST_BYTES = 20000
MOST_WRITTEN = 40
REGISTER_BYTES = 20
MODULUS = 65521


def is_bytes(most, thing):
    """Whether a thing is a row of at most so many bytes."""
    return isinstance(thing, bytes) and len(thing) <= most


def mark(row):
    """The mark of a row: its bytes added up, and these sums added up."""
    if not is_bytes(MOST_BYTES, row):
        raise NoRow()
    plain = 1
    twice = 0
    for byte in row:
        plain = int(plain + byte) % MODULUS
        twice = int(twice + plain) % MODULUS
    return plain + 65536 * twice


def row_of(register):
    """The row that holds a register and the mark of it."""
    if not is_register(register):
        raise NoRegister()
    told = b"".join([number.to_bytes(4, "little") for number in register])
    return told + mark(told).to_bytes(4, "little")


def register_of(row):
    """The tuple of the register that a row holds, an empty one for any other object."""
    if not isinstance(row, bytes) or len(row) != REGISTER_BYTES:
        return ()
    told = tuple([int.from_bytes(row[at:at + 4], "little") for at in range(0, 16, 4)])
    return (told,) if is_register(told) and row_of(told) == row else ()


class Disk:
    """Blocks that wait until they are safe; what waits may be cut."""

    def __init__(self):
        self.rows = []
        self.safe = 0

    def write(self, row):
        """A block more, which waits; its number."""
        if not is_bytes(MOST_WRITTEN, row):
            raise NoRow()
        self.rows.append(row)
        return len(self.rows) - 1

    def sync(self):
        """Lets no block wait any more; how many did."""
        many = len(self.rows) - self.safe
        self.safe = len(self.rows)
        return many

    def blocks(self):
        """The list of all blocks."""
        return list(self.rows)

    def synced(self):
        """How many blocks do not wait."""
        return self.safe

    def cut(self, kept):
        """Cuts the power: of each block that waits so many bytes are kept, and none waits any more."""
        if not is_cut(self, kept):
            raise NoCut()
        waiting = self.rows[self.safe:]
        self.rows = self.rows[:self.safe] + [row[:many] for row, many in zip(waiting, kept)]
        self.safe = len(self.rows)

    def copy(self):
        """Another disk with the same blocks."""
        told = Disk()
        told.rows = list(self.rows)
        told.safe = self.safe
        return told


def is_cut(disk, thing):
    """Whether a thing tells of each block of a disk that waits how many of its bytes are kept."""
    waiting = disk.rows[disk.safe:]
    if not isinstance(thing, tuple) or len(thing) != len(waiting):
        return False
    return all([is_between(0, len(row), many) for row, many in zip(waiting, thing)])


def kept_register(blocks):
    """The register of the last of some rows that holds one, or None."""
    if not isinstance(blocks, list) or not all([is_bytes(MOST_BYTES, row) for row in blocks]):
        raise NoBlocks()
    for row in reversed(blocks):
        told = register_of(row)
        if told:
            return told[0]
    return None
