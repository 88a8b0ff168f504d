"""Courts and their lines."""

from likebook.errors import NoCourt


class Courts:
    def __init__(self, pairs):
        self.aboves = {}
        for court, above in pairs:
            self.found(court, above)

    def stands(self, court):
        # Only texts are looked up: not all else can be.
        return isinstance(court, str) and court in self.aboves

    def found(self, court, above):
        if not isinstance(court, str) or court in self.aboves:
            raise NoCourt("this is no name, or the name of a court that is told already")
        if above is not None and not self.stands(above):
            raise NoCourt("the court above doesn't stand ahead")
        self.aboves[court] = above

    def pairs_told(self):
        return list(self.aboves.items())

    def line(self, court):
        if not self.stands(court):
            raise NoCourt("there is no such court")
        found = [court]
        while self.aboves[found[-1]] is not None:
            found.append(self.aboves[found[-1]])
        return found
