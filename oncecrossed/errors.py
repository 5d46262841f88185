"""The errors of the package."""


class WebError(Exception):
    """The base class of all errors of the package."""


class BadWeb(WebError):
    def __init__(self, thing):
        super().__init__("this is not a web as it is asked for")
        self.thing = thing


class BadLot(WebError):
    def __init__(self, thing):
        super().__init__("this is not a lot as it is asked for")
        self.thing = thing


class BadTie(WebError):
    def __init__(self, number):
        super().__init__("this is not the number of a tie as it is asked for")
        self.number = number


class BadRenaming(WebError):
    def __init__(self, thing):
        super().__init__("this is no renaming of the web")
        self.thing = thing


class BadText(WebError):
    def __init__(self, at):
        super().__init__("this text goes wrong at a line")
        self.at = at


class NoPairing(WebError):
    def __init__(self):
        super().__init__("the web has no pairing")


class NotTight(WebError):
    def __init__(self, pairing):
        super().__init__("a lot is not tight")
        self.pairing = pairing


class BadPairing(WebError):
    def __init__(self, thing):
        super().__init__("this is not a pairing as it is asked for")
        self.thing = thing


class BadPlace(WebError):
    def __init__(self, thing):
        super().__init__("this is not a place as it is asked for")
        self.thing = thing


class BadPaper(WebError):
    def __init__(self, thing):
        super().__init__("this is not a certificate as it is asked for")
        self.thing = thing


class BadTaking(WebError):
    def __init__(self, thing):
        super().__init__("this is no taking of the web")
        self.thing = thing


class BadLots(WebError):
    def __init__(self, thing):
        super().__init__("these are not lots as they are asked for")
        self.thing = thing


class BadWebs(WebError):
    def __init__(self, thing):
        super().__init__("this is no tuple of webs")
        self.thing = thing


class BadTerms(WebError):
    def __init__(self, thing):
        super().__init__("these are no terms of the web")
        self.thing = thing


class BadWeights(WebError):
    def __init__(self, thing):
        super().__init__("these are no weights of the web")
        self.thing = thing


class BadHalf(WebError):
    def __init__(self, thing):
        super().__init__("this is no half corner of the web")
        self.thing = thing


class NotCritical(WebError):
    def __init__(self, certificate):
        super().__init__("the web is not critical")
        self.certificate = certificate


class BadNumber(WebError):
    def __init__(self, thing):
        super().__init__("this is not a number as it is asked for")
        self.thing = thing


class BadRow(WebError):
    def __init__(self, thing):
        super().__init__("this is no row of ears of the web")
        self.thing = thing


class BadRing(WebError):
    def __init__(self, thing):
        super().__init__("this is not a ring as it is asked for")
        self.thing = thing


class NotCovered(WebError):
    def __init__(self, certificate):
        super().__init__("the web is not covered")
        self.certificate = certificate


class BadChange(WebError):
    def __init__(self, at):
        super().__init__("a change cannot be done")
        self.at = at


class Full(WebError):
    def __init__(self):
        super().__init__("the base can hold no more")


class Held(WebError):
    def __init__(self):
        super().__init__("the held pairing bars the change")


class NoBunch(WebError):
    def __init__(self, place):
        super().__init__("this place is no bunch")
        self.place = place


class NothingHeld(WebError):
    def __init__(self):
        super().__init__("no pairing is held")


class NothingToUndo(WebError):
    def __init__(self):
        super().__init__("there is no deed to undo")


class NothingToRedo(WebError):
    def __init__(self):
        super().__init__("there is no deed to redo")
