"""The refusals: one class for each, all of them under MeetError."""


class MeetError(ValueError):
    pass


class NoNumber(MeetError):
    pass


class NoLayout(MeetError):
    def __init__(self, place=None):
        MeetError.__init__(self, f"no layout; place: {place!r}")
        self.place = place


class NoRow(MeetError):
    pass


class NoText(MeetError):
    pass


class NoDual(MeetError):
    pass


class NoPart(MeetError):
    pass


class NoField(MeetError):
    def __init__(self, factor=None):
        MeetError.__init__(self, f"no field; factor: {factor!r}")
        self.factor = factor


class NoNet(MeetError):
    pass


class NoBases(MeetError):
    def __init__(self, place=None):
        MeetError.__init__(self, f"no bases; place: {place!r}")
        self.place = place


class NoArc(MeetError):
    def __init__(self, block=None):
        MeetError.__init__(self, f"no arc; block: {block!r}")
        self.block = block


class NoMeeting(MeetError):
    def __init__(self, block=None):
        MeetError.__init__(self, f"no meeting set; block: {block!r}")
        self.block = block


class NoWish(MeetError):
    pass


class NoDeskRow(MeetError):
    pass


class NoName(MeetError):
    pass
