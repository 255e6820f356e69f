"""The errors of the package, each for one kind of failure."""


class VoiceError(ValueError):
    """What all errors of the package are."""


class BadWord(VoiceError):
    """What should be a word is none, or it stood before."""

    def __init__(self, word):
        super().__init__("this is no word")
        self.word = word


class BadForm(VoiceError):
    """What should be a form is none."""

    def __init__(self, thing):
        super().__init__("this is no such form")
        self.thing = thing


class NoTerms(VoiceError):
    """A comparison has no term left."""

    def __init__(self):
        super().__init__("no term is left in this comparison")


class BadConstant(VoiceError):
    """The constant of a comparison is neither 0 nor 1."""

    def __init__(self, number):
        super().__init__("the constant is neither 0 nor 1")
        self.number = number


class BadCondition(VoiceError):
    """What should be a condition is none."""

    def __init__(self, index):
        super().__init__("this is no condition")
        self.index = index


class BadPlaces(VoiceError):
    """What should be the list of the places is none."""

    def __init__(self, words):
        super().__init__("this is no list of one to seven unlike words")
        self.words = words


class BadBegins(VoiceError):
    """What should be the list of the beginnings is none."""

    def __init__(self, words):
        super().__init__("this is no list of one or more unlike places")
        self.words = words


class BadRule(VoiceError):
    """What should be a rule of a protocol is none."""

    def __init__(self, index):
        super().__init__("this is no rule that may stand here")
        self.index = index


class BadPromise(VoiceError):
    """What should be a promise is none."""

    def __init__(self, index):
        super().__init__("this is no comparison with n and t alone")
        self.index = index


class BadFaults(VoiceError):
    """What should be the word of the faults is none."""

    def __init__(self, word):
        super().__init__("this is no word of faults")
        self.word = word


class NoRule(VoiceError):
    """No rule has this name."""

    def __init__(self, name):
        super().__init__("no rule has this name")
        self.name = name


class BadRun(VoiceError):
    """What should be a run is none."""

    def __init__(self, thing):
        super().__init__("this is no run")
        self.thing = thing


class BadGoal(VoiceError):
    """What should be a comparison of a goal is none."""

    def __init__(self, index):
        super().__init__("this is no comparison that a goal may have")
        self.index = index


class BadMany(VoiceError):
    """What should be a number of members is none."""

    def __init__(self, many):
        super().__init__("this is no such number")
        self.many = many


class BadWish(VoiceError):
    """What should be a wish is none."""

    def __init__(self, index):
        super().__init__("this is no wish")
        self.index = index


class BadIndex(VoiceError):
    """What should be the index of a condition is none."""

    def __init__(self, index):
        super().__init__("this is no index of a condition")
        self.index = index


class BadBox(VoiceError):
    """What should be the bounds of thresholds is none."""

    def __init__(self, box):
        super().__init__("this is no list of such four integers")
        self.box = box


class UnlikePlaces(VoiceError):
    """Two protocols have unlike places."""

    def __init__(self):
        super().__init__("the places are unlike")


class BadGroup(VoiceError):
    """The numbers of a group are not as they must be."""

    def __init__(self):
        super().__init__("these numbers are those of no group")


class BadBegun(VoiceError):
    """What should tell who has begun where does not."""

    def __init__(self, thing):
        super().__init__("this does not tell who has begun where")
        self.thing = thing


class NotStopping(VoiceError):
    """Nobody stops under these faults."""

    def __init__(self):
        super().__init__("nobody stops under these faults")


class NoPlace(VoiceError):
    """No place has this name."""

    def __init__(self, place):
        super().__init__("no place has this name")
        self.place = place


class NotThere(VoiceError):
    """Fewer members stand at a place."""

    def __init__(self, place):
        super().__init__("so many do not stand there")
        self.place = place


class NotHeard(VoiceError):
    """A condition of a rule is not met."""

    def __init__(self, index):
        super().__init__("this condition is not met")
        self.index = index


class TooMany(VoiceError):
    """More members would have stopped than are faulty."""

    def __init__(self, many):
        super().__init__("more would have stopped than are faulty")
        self.many = many


class NoSort(VoiceError):
    """The protocol has no such sort."""

    def __init__(self, word):
        super().__init__("the protocol has no such sort")
        self.word = word


class NameInUse(VoiceError):
    """A name is in use."""

    def __init__(self, name):
        super().__init__("this name is in use")
        self.name = name


class NoName(VoiceError):
    """Nothing has this name."""

    def __init__(self, name):
        super().__init__("nothing has this name")
        self.name = name


class BadDeed(VoiceError):
    """What should be a deed is none."""

    def __init__(self, index):
        super().__init__("this is no deed")
        self.index = index


class BadText(VoiceError):
    """A text tells nothing that may stand there."""

    def __init__(self, line):
        super().__init__("this line may not stand there")
        self.line = line


class NoText(VoiceError):
    """A sort cannot be written in a text."""

    def __init__(self, word):
        super().__init__("this sort cannot be written")
        self.word = word
