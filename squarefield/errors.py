"""What the program refuses, one class for each refusal."""


class SquareError(ValueError):
    pass


class BadNumber(SquareError):
    pass


class BadPrime(SquareError):
    pass


class BadParts(SquareError):
    pass


class BadWalk(SquareError):
    pass


class BadText(SquareError):
    pass
