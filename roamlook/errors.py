"""Every refusal of the program: a class for each, with what it tells in its fields."""


class RoamError(ValueError):
    """Something that was handed in is not as it must be."""

    def __init__(self, word="RoamError"):
        ValueError.__init__(self, word)
        self.word = word


class BadMany(RoamError):
    """No board has so many places."""

    def __init__(self, many):
        RoamError.__init__(self, "BadMany")
        self.many = many


class BadWay(RoamError):
    """This pair is no way of the board, or stood already."""

    def __init__(self, at):
        RoamError.__init__(self, "BadWay")
        self.at = at


class BadOrder(RoamError):
    """Not each place of the board once."""

    def __init__(self):
        RoamError.__init__(self, "BadOrder")


class BadPace(RoamError):
    """No pace of the board."""

    def __init__(self):
        RoamError.__init__(self, "BadPace")


class BadLot(RoamError):
    """No lot of the board, or not one that may stand here."""

    def __init__(self):
        RoamError.__init__(self, "BadLot")


class BadLook(RoamError):
    """No look of the board."""

    def __init__(self):
        RoamError.__init__(self, "BadLook")


class BadAnswer(RoamError):
    """No place of the board gives this answer."""

    def __init__(self):
        RoamError.__init__(self, "BadAnswer")


class BadStory(RoamError):
    """This part of the story is wrong for the board."""

    def __init__(self, at):
        RoamError.__init__(self, "BadStory")
        self.at = at


class BadBeat(RoamError):
    """No such beat here."""

    def __init__(self, beat):
        RoamError.__init__(self, "BadBeat")
        self.beat = beat


class BadCount(RoamError):
    """No such count here."""

    def __init__(self, count):
        RoamError.__init__(self, "BadCount")
        self.count = count


class BadHands(RoamError):
    """So many hands, or the hand with this number, cannot be."""

    def __init__(self, at):
        RoamError.__init__(self, "BadHands")
        self.at = at


class BadWish(RoamError):
    """No wish is for so many places."""

    def __init__(self, most):
        RoamError.__init__(self, "BadWish")
        self.most = most


class BadTalk(RoamError):
    """This part of the talk is wrong."""

    def __init__(self, at):
        RoamError.__init__(self, "BadTalk")
        self.at = at


class BadLost(RoamError):
    """No letters of the talk, or not in their order."""

    def __init__(self):
        RoamError.__init__(self, "BadLost")


class BadWorld(RoamError):
    """None of these worlds."""

    def __init__(self):
        RoamError.__init__(self, "BadWorld")


class BadSaying(RoamError):
    """No saying for this talk and board."""

    def __init__(self):
        RoamError.__init__(self, "BadSaying")


class TooMany(RoamError):
    """There are more worlds than this."""

    def __init__(self, most):
        RoamError.__init__(self, "TooMany")
        self.most = most


class BadText(RoamError):
    """Not so written here."""

    def __init__(self, at):
        RoamError.__init__(self, "BadText")
        self.at = at


class BadName(RoamError):
    """Not 1 to 8 small letters."""

    def __init__(self, name):
        RoamError.__init__(self, "BadName")
        self.name = name


class Taken(RoamError):
    """The name is taken."""

    def __init__(self, name):
        RoamError.__init__(self, "Taken")
        self.name = name


class Full(RoamError):
    """No more of these can be put in."""

    def __init__(self):
        RoamError.__init__(self, "Full")


class Unfit(RoamError):
    """No place would be left at this beat."""

    def __init__(self, at):
        RoamError.__init__(self, "Unfit")
        self.at = at


class Wrong(RoamError):
    """The look is taken to be wrong already."""

    def __init__(self, number):
        RoamError.__init__(self, "Wrong")
        self.number = number


class Right(RoamError):
    """The look counts already."""

    def __init__(self, number):
        RoamError.__init__(self, "Right")
        self.number = number


class Late(RoamError):
    """Time does not go on behind the last beat."""

    def __init__(self):
        RoamError.__init__(self, "Late")


class BadDeed(RoamError):
    """No deed."""

    def __init__(self):
        RoamError.__init__(self, "BadDeed")


class Broken(RoamError):
    """The deed at this place was refused."""

    def __init__(self, at):
        RoamError.__init__(self, "Broken")
        self.at = at


class Missing(LookupError):
    """Something that was asked for is not there."""

    def __init__(self, word="Missing"):
        LookupError.__init__(self, word)
        self.word = word


class NoPlace(Missing):
    """No such place."""

    def __init__(self, place):
        Missing.__init__(self, "NoPlace")
        self.place = place


class NoNumber(Missing):
    """No walk has this number."""

    def __init__(self, number):
        Missing.__init__(self, "NoNumber")
        self.number = number


class NoHand(Missing):
    """No such hand."""

    def __init__(self, hand):
        Missing.__init__(self, "NoHand")
        self.hand = hand


class NoThing(Missing):
    """No such thing."""

    def __init__(self, name):
        Missing.__init__(self, "NoThing")
        self.name = name


class NoLook(Missing):
    """No such look."""

    def __init__(self, number):
        Missing.__init__(self, "NoLook")
        self.number = number


class NoWish(Missing):
    """No such wish."""

    def __init__(self, name):
        Missing.__init__(self, "NoWish")
        self.name = name


class NothingLeft(IndexError):
    """No deed is left that could be taken back or done again."""

    def __init__(self):
        IndexError.__init__(self, "NothingLeft")
        self.word = "NothingLeft"
