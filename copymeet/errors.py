"""The refusals: each stands straight under MeetError, and keeps as a field what it is about."""


class MeetError(ValueError):
    """Any refusal."""


class NoHand(MeetError):
    """A hand that is none of the hands."""


class NoThing(MeetError):
    """A thing that was not made, or is not of the kind asked for."""

    def __init__(self, thing):
        self.thing = thing


class NoPlace(MeetError):
    """A place at which nothing stands, or that is not before another one."""

    def __init__(self, place):
        self.place = place


class Ring(MeetError):
    """A thing that would come to lie within itself; things is the way up from its holder to it."""

    def __init__(self, things):
        # A copy: the one who raises the error may go on to change the list.
        self.things = list(things)


class NoDeed(MeetError):
    """Numbers or a name that no deed bears."""


class Settled(MeetError):
    """A back that would reach at or below the hand's last settle; number is that settle's."""

    def __init__(self, number):
        self.number = number


class Swept(MeetError):
    """A seen that lacks a deed that was thrown away; deed is that one's name."""

    def __init__(self, deed):
        self.deed = deed


class NoText(MeetError):
    """A text that is no written deed."""


class NoRow(MeetError):
    """A row that a room doesn't know."""
