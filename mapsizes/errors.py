"""All exception classes: MapError and StateError are the bases, each other class is directly under one."""


class MapError(ValueError):
    """An argument is invalid."""


class StateError(LookupError):
    """What is asked cannot be done now."""


class InvalidInteger(MapError):
    def __init__(self, value):
        MapError.__init__(self, "not an integer in the range that is asked for")
        self.value = value


class InvalidName(MapError):
    def __init__(self, value):
        MapError.__init__(self, "not a name that is asked for")
        self.value = value


class InvalidPlace(MapError):
    def __init__(self, value):
        MapError.__init__(self, "not a place that is known here")
        self.value = value


class InvalidPlaces(MapError):
    def __init__(self, value):
        MapError.__init__(self, "not a list of places within the limits")
        self.value = value


class InvalidFact(MapError):
    def __init__(self, value):
        MapError.__init__(self, "not a row of facts")
        self.value = value


class InvalidFacts(MapError):
    def __init__(self, value):
        MapError.__init__(self, "not facts, or facts beyond the limits")
        self.value = value


class InvalidSetting(MapError):
    def __init__(self, value):
        MapError.__init__(self, "not a setting that is asked for")
        self.value = value


class InvalidStep(MapError):
    def __init__(self, value):
        MapError.__init__(self, "not a step that is asked for")
        self.value = value


class InvalidHand(MapError):
    def __init__(self, value):
        MapError.__init__(self, "not a list of steps that a hand can have")
        self.value = value


class InvalidProgram(MapError):
    def __init__(self, value):
        MapError.__init__(self, "not a program that is asked for")
        self.value = value


class InvalidWeaving(MapError):
    def __init__(self, value):
        MapError.__init__(self, "not a weaving of the program")
        self.value = value


class InvalidPattern(MapError):
    def __init__(self, value):
        MapError.__init__(self, "not a pattern of the program")
        self.value = value


class InvalidStates(MapError):
    def __init__(self, value):
        MapError.__init__(self, "not a list of states")
        self.value = value


class InvalidGuard(MapError):
    def __init__(self, value):
        MapError.__init__(self, "not a guard that fits the program")
        self.value = value


class InvalidGuards(MapError):
    def __init__(self, value):
        MapError.__init__(self, "not a list of guards within the limits")
        self.value = value


class InvalidText(MapError):
    def __init__(self, value):
        MapError.__init__(self, "not a text that is asked for")
        self.value = value


class InvalidLine(MapError):
    def __init__(self, index):
        MapError.__init__(self, "a line that cannot stand or be executed at its place")
        self.index = index


class InvalidCommand(MapError):
    def __init__(self, value):
        MapError.__init__(self, "not a command")
        self.value = value


class Unordered(MapError):
    def __init__(self, left, right):
        MapError.__init__(self, "two places of unlike unknowns have no difference")
        self.left = left
        self.right = right


class NotReady(StateError):
    def __init__(self, hand):
        StateError.__init__(self, "not a hand that is ready")
        self.hand = hand


class NoProgram(StateError):
    def __init__(self):
        StateError.__init__(self, "there is no program")


class NothingToUndo(StateError):
    def __init__(self):
        StateError.__init__(self, "there is no change to take back")


class NoTrial(StateError):
    def __init__(self):
        StateError.__init__(self, "no trial is open")
