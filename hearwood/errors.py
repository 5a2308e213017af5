"""The refusals: one class for each, all under HearError."""


class HearError(ValueError):
    pass


class NoBook(HearError):
    pass


class NoTeller(HearError):
    pass


class Alone(HearError):
    pass


class First(HearError):
    pass


class NoHearing(HearError):
    pass


class NoFamily(HearError):
    pass


class BadText(HearError):
    pass
