"""The refusals: one class for each, all of them under PlanError, none under another one."""


class PlanError(ValueError):
    pass


class NoFrame(PlanError):
    pass


class NoAsk(PlanError):
    pass


class NoTurn(PlanError):
    # place is the number of the turn within its paper, None where a turn stands alone.
    def __init__(self, place):
        PlanError.__init__(self, "this turn isn't let by")
        self.place = place


class NoTree(PlanError):
    pass


class NoOrder(PlanError):
    pass


class NoPlan(PlanError):
    pass


class NoMore(PlanError):
    pass


class NoText(PlanError):
    pass


class NoRow(PlanError):
    pass


class NoName(PlanError):
    pass


class NoChange(PlanError):
    pass


class NoKeep(PlanError):
    def __init__(self, broken):
        PlanError.__init__(self, "the book doesn't keep its frame")
        self.broken = broken


class NoLevel(PlanError):
    pass


class NoHand(PlanError):
    pass


class Late(PlanError):
    def __init__(self, why):
        PlanError.__init__(self, "another hand was kept ahead of this one")
        self.why = why


class NoPage(PlanError):
    pass
