"""The refusals: one class for each, all of them straight under SlackError."""


class SlackError(ValueError):
    pass


class NoNumber(SlackError):
    pass


class NoTie(SlackError):
    pass


class Twice(SlackError):
    pass


class NoName(SlackError):
    pass


class NoFace(SlackError):
    pass


class Impossible(SlackError):
    def __init__(self, words="", around=None):
        SlackError.__init__(self, words)
        # A copy, so that whoever raised it may go on with the list.
        self.around = [] if around is None else list(around)


class NoPart(SlackError):
    pass


class NoGap(SlackError):
    pass


class InRing(SlackError):
    pass


class Apart(SlackError):
    pass


class Tight(SlackError):
    def __init__(self, words="", tight_gap=""):
        SlackError.__init__(self, words)
        self.tight_gap = tight_gap


class Off(SlackError):
    pass


class NoRow(SlackError):
    pass
