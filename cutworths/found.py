"""What a search found."""


class Found:
    """What a search tells of the root, the leaves that it asked, and the children that it passed by."""

    def __init__(self, worth, asked, passed):
        self.worth = worth
        self.asked = asked
        self.passed = passed

    def __eq__(self, other):
        return (isinstance(other, Found) and self.worth == other.worth and self.asked == other.asked
                and self.passed == other.passed)
