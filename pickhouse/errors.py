"""The refusals, one class each."""


class PickError(ValueError):
    pass


class NoFamily(PickError):
    pass


class NoSet(PickError):
    pass


class NoThing(PickError):
    pass


class NoMember(PickError):
    pass


class NoNote(PickError):
    pass
