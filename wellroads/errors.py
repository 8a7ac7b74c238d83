"""What the program refuses, one class for each refusal."""


class RoadError(ValueError):
    pass


class BadTree(RoadError):
    pass


class NoVillage(RoadError):
    pass


class NoRoad(RoadError):
    pass


class BadNumber(RoadError):
    pass


class BadRow(RoadError):
    def __init__(self, row):
        self.row = row
