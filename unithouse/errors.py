"""The errors of Unithouse. Each one keeps its arguments under their names."""


class UnitError(ValueError):
    """What every error of the package is."""


class BadMany(UnitError):
    """The number of names is no integer from 2 to 5."""

    def __init__(self, value):
        self.value = value


class BadSort(UnitError):
    """What stands at the path is not what a sort must have there."""

    def __init__(self, path):
        self.path = path


class TooGreat(UnitError):
    """More than the most that is allowed."""

    def __init__(self, most):
        self.most = most


class BadMember(UnitError):
    """The value is not the member that is wanted."""

    def __init__(self, value):
        self.value = value


class BadContent(UnitError):
    """The value is no content."""

    def __init__(self, value):
        self.value = value


class BadName(UnitError):
    """The value is no name."""

    def __init__(self, value):
        self.value = value


class SameName(UnitError):
    """The name stands where two unlike ones are wanted."""

    def __init__(self, name):
        self.name = name


class NoFree(UnitError):
    """There is no transfer from the giver to the taker."""

    def __init__(self, giver, taker):
        self.giver = giver
        self.taker = taker


class BadIndex(UnitError):
    """The value is no number in the range that is wanted."""

    def __init__(self, value):
        self.value = value


class BadTotal(UnitError):
    """The value is not the sum that is wanted."""

    def __init__(self, value):
        self.value = value


class BadWay(UnitError):
    """What stands at the place of a way, a row or an order is wrong."""

    def __init__(self, place):
        self.place = place


class BadRule(UnitError):
    """There is no rule of this word, or it does not fit."""

    def __init__(self, word):
        self.word = word


class BadPath(UnitError):
    """The path is not that of a part."""

    def __init__(self, path):
        self.path = path


class BadStep(UnitError):
    """The step at the place is refused."""

    def __init__(self, place):
        self.place = place


class BadWorths(UnitError):
    """The value is no tuple of worths."""

    def __init__(self, value):
        self.value = value


class BadTable(UnitError):
    """What the value tells of a table is wrong."""

    def __init__(self, value):
        self.value = value


class BadText(UnitError):
    """The word of the line is not one that may stand there."""

    def __init__(self, line, word):
        self.line = line
        self.word = word


class BadPaper(UnitError):
    """The paper is wrong in what the word tells."""

    def __init__(self, word):
        self.word = word


class Unlike(UnitError):
    """The content is not alike on both sides."""

    def __init__(self, content):
        self.content = content


class NothingBack(UnitError):
    """There is nothing to take back."""


class BadKeep(UnitError):
    """The keep at the place is none, or does not hold."""

    def __init__(self, place):
        self.place = place
