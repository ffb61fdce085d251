"""The errors of the program. Each one keeps what it was made with, as it was passed."""


class PlateError(ValueError):
    """The base class of all errors of the program."""


class BadInk(PlateError):
    def __init__(self, number):
        self.number = number


class BadPicture(PlateError):
    def __init__(self, number):
        self.number = number


class BadPlate(PlateError):
    def __init__(self, number):
        self.number = number


class BadPress(PlateError):
    def __init__(self, word):
        self.word = word


class BadJob(PlateError):
    def __init__(self, number):
        self.number = number


class BadClaim(PlateError):
    def __init__(self, claim):
        self.claim = claim


class BadWish(PlateError):
    def __init__(self, number):
        self.number = number


class BadRule(PlateError):
    def __init__(self, number):
        self.number = number


class BadLine(PlateError):
    def __init__(self, line, word):
        self.line = line
        self.word = word


class BadStamp(PlateError):
    def __init__(self, number):
        self.number = number


class BadDeed(PlateError):
    def __init__(self, number):
        self.number = number


class BadOrder(PlateError):
    def __init__(self, order):
        self.order = order


class BadColours(PlateError):
    def __init__(self, number):
        self.number = number


class BadMenu(PlateError):
    def __init__(self, number):
        self.number = number


class BadTrap(PlateError):
    def __init__(self, trap):
        self.trap = trap


class BadLooks(PlateError):
    def __init__(self, number):
        self.number = number


class BadAims(PlateError):
    def __init__(self, aims):
        self.aims = aims


class BadPalette(PlateError):
    def __init__(self, colours):
        self.colours = colours


class BadBars(PlateError):
    def __init__(self, number):
        self.number = number


class BadMost(PlateError):
    def __init__(self, most):
        self.most = most


class BadChange(PlateError):
    def __init__(self, number):
        self.number = number


class BadPatch(PlateError):
    def __init__(self, number):
        self.number = number


class BadPace(PlateError):
    def __init__(self, pace):
        self.pace = pace


class BadTape(PlateError):
    def __init__(self, number):
        self.number = number


class BadLies(PlateError):
    def __init__(self, number):
        self.number = number


class BadPlan(PlateError):
    def __init__(self, word):
        self.word = word


class BadDesign(PlateError):
    def __init__(self, number):
        self.number = number


class BadHand(PlateError):
    def __init__(self, number):
        self.number = number


class BadTurns(PlateError):
    def __init__(self, number):
        self.number = number


class BadRun(PlateError):
    def __init__(self, number):
        self.number = number


class BadLot(PlateError):
    def __init__(self, lot):
        self.lot = lot


class BadPulls(PlateError):
    def __init__(self, number):
        self.number = number


class BadKept(PlateError):
    def __init__(self, number):
        self.number = number


class BadLayout(PlateError):
    def __init__(self, number):
        self.number = number


class NoColour(PlateError):
    def __init__(self, colour):
        self.colour = colour


class NoInk(PlateError):
    def __init__(self, name):
        self.name = name


class NoLie(PlateError):
    def __init__(self, lie):
        self.lie = lie


class NoUnit(PlateError):
    def __init__(self, number):
        self.number = number


class NoRule(PlateError):
    def __init__(self, number):
        self.number = number


class NoCell(PlateError):
    def __init__(self, cell):
        self.cell = cell


class NoStep(PlateError):
    def __init__(self, many):
        self.many = many


class NoLot(PlateError):
    def __init__(self, number):
        self.number = number


class NoPart(PlateError):
    def __init__(self, number):
        self.number = number


class NoCopy(PlateError):
    def __init__(self, number):
        self.number = number


class Clash(PlateError):
    def __init__(self, name):
        self.name = name


class Unlike(PlateError):
    def __init__(self, word):
        self.word = word


class TooMany(PlateError):
    def __init__(self, word):
        self.word = word
