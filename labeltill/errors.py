"""The errors of the package: each keeps the very objects that it is created with."""


class LabelError(ValueError):
    """What all errors of the package have in common; raised nowhere itself."""


class Wrong(LabelError):
    """The argument with this place is not as described."""

    def __init__(self, place):
        self.place = place


class NotLater(LabelError):
    """The change with this index does not come behind the one ahead."""

    def __init__(self, index):
        self.index = index


class Early(LabelError):
    """The change with this index is sent ahead of its moment, or of the one ahead."""

    def __init__(self, index):
        self.index = index


class NoNumber(LabelError):
    """This value is no number of a price."""

    def __init__(self, number):
        self.number = number


class NoPrice(LabelError):
    """This value is no price of the book."""

    def __init__(self, price):
        self.price = price


class NoChange(LabelError):
    """This value is no index of a change."""

    def __init__(self, index):
        self.index = index


class NoOrder(LabelError):
    """This value is no good order of telling."""

    def __init__(self, order):
        self.order = order


class NoIndex(LabelError):
    """This value is no index of a good order."""

    def __init__(self, index):
        self.index = index


class NoLoss(LabelError):
    """This value is no loss that can be."""

    def __init__(self, loss):
        self.loss = loss


class Outside(LabelError):
    """The change with this index is not within the round."""

    def __init__(self, index):
        self.index = index


class NoPlace(LabelError):
    """This value is no place."""

    def __init__(self, place):
        self.place = place


class Passed(LabelError):
    """A later sighting was made at the place already than at this moment."""

    def __init__(self, moment):
        self.moment = moment


class Clash(LabelError):
    """With this deed the sightings could not be any more."""

    def __init__(self, deed):
        self.deed = deed


class Refused(LabelError):
    """This value is no deed, or a deed that cannot be done."""

    def __init__(self, deed):
        self.deed = deed


class Nothing(LabelError):
    """There is nothing to take back or to do again."""


class NoText(LabelError):
    """The item of a text with this index is not written as it has to be."""

    def __init__(self, index):
        self.index = index


class NoCommand(LabelError):
    """A line is no command."""
