"""The refusals of the program."""


class LotError(ValueError):
    """Any refusal."""


class Empty(LotError):
    """A row reads an empty register; block and row are numbers."""

    def __init__(self, block, row):
        LotError.__init__(self, f"block {block}, row {row}: an empty register is read")
        self.block = block
        self.row = row


class Twin(LotError):
    """A row has one worth with a row ahead; block and row are numbers."""

    def __init__(self, block, row):
        LotError.__init__(self, f"block {block}, row {row}: a worth is made twice")
        self.block = block
        self.row = row


class NoSet(LotError):
    """A thing is no done set of the block; made with a message."""


class NoNumber(LotError):
    """A number isn't one from 0 below the count, or up to it where it is the most."""

    def __init__(self, count):
        LotError.__init__(self, f"no such number, the count is {count}")
        self.count = count


class NoCode(LotError):
    """A text has no code; made with a message."""


class NoRoom(LotError):
    """A word is longer than the room."""

    def __init__(self, room):
        LotError.__init__(self, f"the room is {room} letters")
        self.room = room


class Standing(LotError):
    """A name, or a text under that name, stands already."""

    def __init__(self, name):
        LotError.__init__(self, f"{name} stands already")
        self.name = name


class Full(LotError):
    """As many stand as may stand."""

    def __init__(self, most):
        LotError.__init__(self, f"{most} stand, the most that may")
        self.most = most


class NoName(LotError):
    """A thing is no name, or stands for nothing."""

    def __init__(self, name):
        # The name may be anything, so the message doesn't show it.
        LotError.__init__(self, "no such name")
        self.name = name


class NoHolder(LotError):
    """A thing is no holder who may be named here."""

    def __init__(self, holder):
        # The holder may be anything, so the message doesn't show it.
        LotError.__init__(self, "no such holder")
        self.holder = holder


class NoBlock(LotError):
    """A thing isn't blocks for those of a text; made with a message."""


class NoText(LotError):
    """No text stands that a code reads to; made with a message."""
