"""The refusals: a call that is refused answers the refusal's number alone."""


class Refusal(Exception):
    """What all refusals stand under, so that one handler can answer them."""

    def __init__(self, number):
        self.number = number


class NumberRefused(Refusal):
    """A number is below 0, or one that should be a byte is none."""

    def __init__(self):
        Refusal.__init__(self, -1)


class NoGrammarRow(Refusal):
    """The row of numbers tells no grammar."""

    def __init__(self):
        Refusal.__init__(self, -2)


class TooManyBytes(Refusal):
    """A text would have more bytes than a text may have."""

    def __init__(self):
        Refusal.__init__(self, -3)


class NoSuchRule(Refusal):
    """The grammar has no rule of this number."""

    def __init__(self):
        Refusal.__init__(self, -4)


class NoTreeHeld(Refusal):
    """A tree is asked about, and none is held."""

    def __init__(self):
        Refusal.__init__(self, -6)


class NoSuchNode(Refusal):
    """The held tree has no node of this number."""

    def __init__(self):
        Refusal.__init__(self, -7)


class TooManyNodes(Refusal):
    """A tree would have more nodes than a tree may have."""

    def __init__(self):
        Refusal.__init__(self, -8)


class NotSuchTree(Refusal):
    """The numbers don't tell the nodes of a tree such as is asked for."""

    def __init__(self):
        Refusal.__init__(self, -9)


class NotToBeSwapped(Refusal):
    """The two nodes are not such that their trees could change places."""

    def __init__(self):
        Refusal.__init__(self, -10)


class NoTreeBefore(Refusal):
    """There is nothing to undo."""

    def __init__(self):
        Refusal.__init__(self, -11)
