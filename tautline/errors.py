"""The refusals: pegs that are alike, ropes that may not lie so, ends that do not fit."""


class RopeError(ValueError):
    pass


class NoPegs(RopeError):
    pass


class NoEnds(RopeError):
    pass


class NoRope(RopeError):
    def __init__(self, place):
        self.place = place
