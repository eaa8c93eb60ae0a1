"""All refusals of the yard."""


class YardError(ValueError):
    pass


class NoNumber(YardError):
    pass


class NoPlate(YardError):
    pass


class NoSun(YardError):
    def __init__(self, at):
        YardError.__init__(self, f"no sun, at {at!r}")
        self.at = at


class NoYard(YardError):
    def __init__(self, name):
        YardError.__init__(self, f"no yard, name {name!r}")
        self.name = name


class NotLit(YardError):
    def __init__(self, hour):
        YardError.__init__(self, f"not lit from ahead, hour {hour!r}")
        self.hour = hour


class NoHour(YardError):
    def __init__(self, hour):
        YardError.__init__(self, f"no hour of the sun, hour {hour!r}")
        self.hour = hour


class TooMany(YardError):
    pass


class NoRow(YardError):
    def __init__(self, row):
        YardError.__init__(self, f"no row of a yard, row {row!r}")
        self.row = row


class NoName(YardError):
    pass


class NoSay(YardError):
    pass


class NoBack(YardError):
    pass
