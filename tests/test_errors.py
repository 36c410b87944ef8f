"""Errors [0.9] and the list of the interface."""

import inspect

from cutworths import errors
from tests.base import Case

ERRORS = """BadLattice(what, at), NoWorth(worth), BadCount(what), BadSets(what, at), BadOrder(index), BadCouples(index),
BadMap(index), NotPrime(worth), BadLatticeText(word), BadBoard(what, at), NoArrow(arrow), BadLength(length),
BadRules(what, at), BadCondition(), BadNames(what), BadRow(), BadEdit(what), BadText(what, row, word), NotAMove(move),
BadTree(what, road), NoNode(node), NoRoad(road), BadFilling(), TooMany(most), NotInWeb(position), NoNumber(number),
BadContext(), NoSign(sign), BadWay(index), NoLeaf(leaf), Again(leaf), Needless(leaf), NotDone(hanging), BadPicks(index),
BadLot(index), NotEnough(), BadMemory(what), NoLook(at), Apart(low, high), Ended(), BadCut(what, at), BadDepth(depth),
BadHand(hand), Busy(hand), NoJob(number), NotOut(number), Given(number), BadHands(hands), Idle(hand), BadWhich(which),
BadHolder(holder), BadGuess(guess), NotAShape(), BadRoot(root), BadLead(what, at), BadWorlds(what), UnlikeRules(at),
BadDeed(what), BadDesk(what), NoMove(at), NoBack(), Barred(tree), IsCut(), NotCut(), Finished(), NoEngine(),
BadStory(row)"""


def listed():
    """Each error's name with the tuple of its attributes' names."""
    found = {}
    for item in ERRORS.replace("\n", " ").replace("), ", ");").split(";"):
        name, rest = item.strip().rstrip(")").split("(")
        found[name] = tuple(word for word in rest.split(", ") if word)
    return found


class TestErrors(Case):
    def test_worth_error_stands_straight_under_value_error(self):
        self.assertEqual(errors.WorthError.__bases__, (ValueError,))

    def test_each_error_stands_straight_under_worth_error(self):
        self.assertEqual(len(listed()), 67)
        for name in listed():
            self.assertEqual(getattr(errors, name).__bases__, (errors.WorthError,), name)
            self.assertEqual(getattr(errors, name).__module__, "cutworths.errors", name)

    def test_there_are_no_other_errors(self):
        found = [name for name, thing in vars(errors).items() if inspect.isclass(thing)]
        self.assertEqual(sorted(found), sorted(list(listed()) + ["WorthError"]))

    def test_attributes_are_taken_in_their_order_and_not_checked(self):
        for name, attributes in listed().items():
            things = [object(), [1, "x"], 10 ** 5000][:len(attributes)]
            error = getattr(errors, name)(*things)
            for attribute, thing in zip(attributes, things):
                self.assertIs(getattr(error, attribute), thing, name)

    def test_attributes_are_taken_by_their_names(self):
        for name, attributes in listed().items():
            error = getattr(errors, name)(**{attribute: attribute.upper() for attribute in attributes})
            for attribute in attributes:
                self.assertEqual(getattr(error, attribute), attribute.upper(), name)

    def test_errors_are_raised_and_caught_as_value_errors(self):
        for name, attributes in listed().items():
            with self.assertRaises(ValueError):
                raise getattr(errors, name)(*attributes)
