"""The errors of the program: each stands straight under WorthError and checks nothing."""


class WorthError(ValueError):
    """Whatever the program refuses."""


class BadLattice(WorthError):
    """A table is no lattice; at is the place of the fault."""
    def __init__(self, what, at):
        self.what, self.at = what, at


class NoWorth(WorthError):
    """What was given is no worth of the lattice."""
    def __init__(self, worth):
        self.worth = worth


class BadCount(WorthError):
    """A lattice of this size is not made."""
    def __init__(self, what):
        self.what = what


class BadSets(WorthError):
    """The sets form no lattice; at is the place of the fault."""
    def __init__(self, what, at):
        self.what, self.at = what, at


class BadOrder(WorthError):
    """An order does not hold each number once."""
    def __init__(self, index):
        self.index = index


class BadCouples(WorthError):
    """An item is no couple of points."""
    def __init__(self, index):
        self.index = index


class BadMap(WorthError):
    """An entry of a map is no worth."""
    def __init__(self, index):
        self.index = index


class NotPrime(WorthError):
    """A worth is not firm."""
    def __init__(self, worth):
        self.worth = worth


class BadLatticeText(WorthError):
    """A word of a lattice's text is wrong."""
    def __init__(self, word):
        self.word = word


class BadBoard(WorthError):
    """A board is wrong; at is the number of the arrow."""
    def __init__(self, what, at):
        self.what, self.at = what, at


class NoArrow(WorthError):
    """No arrow has this name."""
    def __init__(self, arrow):
        self.arrow = arrow


class BadLength(WorthError):
    """No chain has this length."""
    def __init__(self, length):
        self.length = length


class BadRules(WorthError):
    """Rules are wrong; at is the number of the kind, move or end."""
    def __init__(self, what, at):
        self.what, self.at = what, at


class BadCondition(WorthError):
    """What was given is no condition over the rules."""


class BadNames(WorthError):
    """New names do not fit the kinds or the arrows."""
    def __init__(self, what):
        self.what = what


class BadRow(WorthError):
    """A row of new worths does not fit the rules."""


class BadEdit(WorthError):
    """An edit has no form, or names a place that is not there."""
    def __init__(self, what):
        self.what = what


class BadText(WorthError):
    """A text of rules or of an edit is wrong at this word."""
    def __init__(self, what, row, word):
        self.what, self.row, self.word = what, row, word


class NotAMove(WorthError):
    """A move cannot be made in the position."""
    def __init__(self, move):
        self.move = move


class BadTree(WorthError):
    """The node at this road is wrong."""
    def __init__(self, what, road):
        self.what, self.road = what, road


class NoNode(WorthError):
    """The tree has no such node."""
    def __init__(self, node):
        self.node = node


class NoRoad(WorthError):
    """The road leads to no node."""
    def __init__(self, road):
        self.road = road


class BadFilling(WorthError):
    """The worths do not fit the leaves."""


class TooMany(WorthError):
    """There are more things than the most that are allowed."""
    def __init__(self, most):
        self.most = most


class NotInWeb(WorthError):
    """The position is not in the web."""
    def __init__(self, position):
        self.position = position


class NoNumber(WorthError):
    """The web has no position of this number."""
    def __init__(self, number):
        self.number = number


class BadContext(WorthError):
    """What was given is no context."""


class NoSign(WorthError):
    """What was given is no sign of a node."""
    def __init__(self, sign):
        self.sign = sign


class BadWay(WorthError):
    """An item is no couple of a sign and a worth."""
    def __init__(self, index):
        self.index = index


class NoLeaf(WorthError):
    """The tree has no such leaf."""
    def __init__(self, leaf):
        self.leaf = leaf


class Again(WorthError):
    """The leaf has been asked before."""
    def __init__(self, leaf):
        self.leaf = leaf


class Needless(WorthError):
    """The leaf does not hang."""
    def __init__(self, leaf):
        self.leaf = leaf


class NotDone(WorthError):
    """Leaves still hang."""
    def __init__(self, hanging):
        self.hanging = hanging


class BadPicks(WorthError):
    """An item is no pick."""
    def __init__(self, index):
        self.index = index


class BadLot(WorthError):
    """An item is no leaf number."""
    def __init__(self, index):
        self.index = index


class NotEnough(WorthError):
    """The lot does not settle the root's worth."""


class BadMemory(WorthError):
    """A memory cannot be made so."""
    def __init__(self, what):
        self.what = what


class NoLook(WorthError):
    """The memory has nothing at this place."""
    def __init__(self, at):
        self.at = at


class Apart(WorthError):
    """No worth fits all that was told of a position."""
    def __init__(self, low, high):
        self.low, self.high = low, high


class Ended(WorthError):
    """The engine has ended."""


class BadCut(WorthError):
    """A state, or the text of one, is wrong."""
    def __init__(self, what, at):
        self.what, self.at = what, at


class BadDepth(WorthError):
    """A ground is not cut at this depth."""
    def __init__(self, depth):
        self.depth = depth


class BadHand(WorthError):
    """There is no such hand."""
    def __init__(self, hand):
        self.hand = hand


class Busy(WorthError):
    """The hand has a job."""
    def __init__(self, hand):
        self.hand = hand


class NoJob(WorthError):
    """There is no job of this number."""
    def __init__(self, number):
        self.number = number


class NotOut(WorthError):
    """The job is not out."""
    def __init__(self, number):
        self.number = number


class Given(WorthError):
    """The job has been given."""
    def __init__(self, number):
        self.number = number


class BadHands(WorthError):
    """So many hands do not weave."""
    def __init__(self, hands):
        self.hands = hands


class Idle(WorthError):
    """The hand has no job."""
    def __init__(self, hand):
        self.hand = hand


class BadWhich(WorthError):
    """A bound is a floor or a ceiling."""
    def __init__(self, which):
        self.which = which


class BadHolder(WorthError):
    """A holder joins or meets."""
    def __init__(self, holder):
        self.holder = holder


class BadGuess(WorthError):
    """The guess is no worth."""
    def __init__(self, guess):
        self.guess = guess


class NotAShape(WorthError):
    """What was given is no pentagon or diamond of the lattice."""


class BadRoot(WorthError):
    """A root joins or meets."""
    def __init__(self, root):
        self.root = root


class BadLead(WorthError):
    """A row does not lead the worths of a tree."""
    def __init__(self, what, at):
        self.what, self.at = what, at


class BadWorlds(WorthError):
    """Lattices and trees do not form a world."""
    def __init__(self, what):
        self.what = what


class UnlikeRules(WorthError):
    """These rules differ in more than worths."""
    def __init__(self, at):
        self.at = at


class BadDeed(WorthError):
    """What was given is no deed."""
    def __init__(self, what):
        self.what = what


class BadDesk(WorthError):
    """A desk cannot be made so."""
    def __init__(self, what):
        self.what = what


class NoMove(WorthError):
    """No open move has this number."""
    def __init__(self, at):
        self.at = at


class NoBack(WorthError):
    """No move was made."""


class Barred(WorthError):
    """The lattice bars the cut; the tree shows it."""
    def __init__(self, tree):
        self.tree = tree


class IsCut(WorthError):
    """The engine has been cut off."""


class NotCut(WorthError):
    """No engine has been cut off."""


class Finished(WorthError):
    """The engine has told its worth."""


class NoEngine(WorthError):
    """No engine is on its way."""


class BadStory(WorthError):
    """A row of a story is not spelled as one is."""
    def __init__(self, row):
        self.row = row
