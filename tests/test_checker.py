"""The checker: claims and papers, [34], with [10], [15], [17], [18], [21] and [27] for what they are made of."""
import random
import unittest

from certified import WORDS, bent, certified, some_claims, some_small_kind
from helper import STRANGE, nested
from plain import accepts_plainly, is_claim, is_large, is_so

from onefilling.checker import accepts

ALIKE = (1, 2, 2, (("steps", 0, 1, 0, 0), ("sum", (0, 1), 2, 3)))
SQUARE = (2, 2, 2, (("unlike", (0, 1)), ("unlike", (0, 2)), ("unlike", (1, 3)), ("unlike", (2, 3))))
FREE = (1, 2, 2, ())
BOTH = ((1, 2), (1, 2))
TREE = ("cases", 1, (("rule", 0), ("rule", 1)))
REASON = ((0, 1), 0, 2, TREE)
LAST = ((0,), 1, 2, ("rule", 0))
ROW = (REASON, LAST)
# For one rule at a time: fillings that are alike, fillings of up to 3 together.
COVERS = (((1, 1), (2, 2)), ((1, 2), (2, 1)))
DONE = (((1, 1),),)
OTHERS = ((("cases", 1, (("rule", 0), ("rule", 1))),), (("cases", 0, (("rule", 0), ("rule", 1))),))
BACK = (("rule", 0),)
# Of each sort of claims some that are so, each with papers for it, and papers that are none for it.
RIGHT = (
    (("fills", SQUARE, (1, 2, 2, 1)), ((),), ((1, 2, 2, 1), None, [], ((),), 0, False, "", {})),
    (("none", (ALIKE, ((0, 2),))), (TREE, ("cases", 0, (TREE,)), ("cases", 0, (("cases", 0, (TREE,)),))),
     (("rule", 0), ("rule", 1), ("void", 0), (), None, list(TREE), ("cases", 1, [("rule", 0), ("rule", 1)]),
      ("cases", 1, (("rule", 1), ("rule", 0))), ("cases", 1, (("rule", 0),)), ("cases", True, (("rule", 0), ("rule", 1))),
      ("cases", 1, (("rule", False), ("rule", 1))), ("cases", 1, (("rule", 0), ("rule", 1), ("rule", 1))),
      ("cases", 1, (("rule", 0), ("rule", 2))), ("cases", 2, (("rule", 0), ("rule", 1))), ("cases", 0, (("rule", 0), TREE)))),
    (("one", (ALIKE, ()), (1, 1)), (OTHERS,),
     ((OTHERS[0],), OTHERS[::-1], OTHERS + ((),), (OTHERS[0], ()), (OTHERS[0], OTHERS[1] + OTHERS[1]), list(OTHERS),
      (list(OTHERS[0]), OTHERS[1]), (), None, ((), ()), ((("rule", 0),), OTHERS[1]), TREE)),
    (("one", (ALIKE, ((0, 1), (1, 1))), (1, 1)), (((), ()),), ((), ((),), ((), (), ()), (((),), ()), OTHERS)),
    (("two", (SQUARE, ())), (((1, 2, 2, 1), (2, 1, 1, 2)), ((2, 1, 1, 2), (1, 2, 2, 1))),
     (((1, 2, 2, 1), (1, 2, 2, 1)), ((1, 2, 2, 1),), ((1, 2, 2, 1), (2, 1, 1, 2), (1, 2, 2, 1)), ((1, 2, 2, 1), (2, 1, 2, 1)),
      [(1, 2, 2, 1), (2, 1, 1, 2)], ((1, 2, 2, 1), [2, 1, 1, 2]), ((True, 2, 2, 1), (2, 1, 1, 2)), (), None, ((), ()))),
    (("follows", ALIKE, BOTH, (0, 1), 0, 2), (TREE, ("cases", 0, (TREE,))), (("rule", 0), ("rule", 1), REASON, (), None, (1, 1))),
    (("follows", ALIKE, ((2,), (1, 2)), (0,), 1, 1), (("rule", 0),), (("rule", 1), TREE, ("void", 1), (2, 1))),
    (("follows", ALIKE, ((1, 2), ()), (), 0, 2), (("void", 1), ("cases", 1, ()), ("cases", 0, (("void", 1),))),
     (("void", 0), ("cases", 1, ((),)), ("rule", 0), ("void", True))),
    (("follows not", ALIKE, BOTH, (0,), 0, 2), ((2, 2),), ((2, 1), (1, 1), (1, 2), [2, 2], (2,), (2, 2, 2), None, (), TREE)),
    (("follows not", ALIKE, BOTH, (0, 1), 1, 1), ((1, 1),), ((2, 1), (2, 2), (True, 1), (1, True))),
    (("least lot", ALIKE, BOTH, (0, 1), 0, 2), ((TREE, ((2, 1), (2, 2))), (("cases", 0, (TREE,)), ((2, 1), (2, 2)))),
     ((TREE, ((2, 2), (2, 1))), (TREE, ((2, 1),)), (TREE, ((2, 1), (1, 1))), (TREE, ()), (TREE,), TREE, (TREE, [(2, 1), (2, 2)]),
      (("rule", 0), ((2, 1), (2, 2))), (TREE, ((2, 1), (2, 2)), ()), None, (), (None, ((2, 1), (2, 2))),
      (TREE, ((2, 1), (2, 2), (2, 2))), (((2, 1), (2, 2)), TREE))),
    (("least lot", ALIKE, ((1, 2), ()), (), 0, 1), ((("void", 1), ()),), ((("void", 0), ()), (("void", 1), ((1, 1),)), ("void", 1))),
    (("end", ALIKE, BOTH, 2, ((1,), (1,))), ((ROW, DONE), ((REASON, ((0, 1), 1, 2, ("rule", 0))), DONE), (ROW, (((1, 1), (1, 1)),))),
     ((ROW, ()), ((REASON,), DONE), (ROW + ROW, DONE), (ROW[::-1], DONE), (ROW, (((1, 1),), ((1, 1),))), (ROW, ((),)), ROW, DONE,
      (ROW, (((1, 2),),)), (list(ROW), DONE), (ROW, DONE, ()), (ROW, [((1, 1),)]), (None, DONE), (ROW, None), None)),
    (("end", ALIKE, BOTH, 1, BOTH), (((), COVERS), ((), (COVERS[0][::-1], COVERS[1] + ((1, 1), (1, 1))))),
     (((), COVERS[::-1]), ((), COVERS[:1]), ((), (COVERS[0][:1], COVERS[1])), ((), COVERS + COVERS[:1]), (ROW, COVERS), COVERS,
      ((), (COVERS[0], COVERS[1] + ((2, 2),))), ((), ((), ())), ((), (COVERS[0] * 49, COVERS[1])))),
    (("end", ALIKE, BOTH, 0, BOTH), (((), (COVERS[0],)), ((), (COVERS[1],)), ((), (COVERS[0] * 48,))),
     (((), ()), ((), ((),)), ((), (COVERS[0] * 48 + ((1, 1),),)), ((), COVERS))),
    (("end", ALIKE, ((1,), ()), 0, ((), ())), (((((), 0, 1, ("void", 1)),), ((),)),),
     ((((),), ((),)), (((((), 0, 1, ("void", 1))),), ()), ((((0,), 0, 1, ("void", 1)),), ((),)), ((), ((),)))),
    (("hard up to", (ALIKE, ()), 2), (ROW, (REASON, ((0, 1), 1, 2, ("rule", 0)))), ((REASON,), (), None, REASON, list(ROW), ROW + ROW)),
    (("hard up to", (ALIKE, ((0, 1),)), 1), ((LAST,),), ((REASON,), ROW, (), None, LAST, (((0, 1), 1, 2, ("rule", 0)),))),
    (("hard up to", (ALIKE, ((0, 1), (1, 1))), 0), ((),), (ROW, None, ((),), 0)),
    (("harder than", (ALIKE, ()), 1), ((BOTH, COVERS), (BOTH, (COVERS[0] * 2, COVERS[1]))),
     ((BOTH, COVERS[::-1]), (((1,), (1,)), (((1, 1),),) * 2), (BOTH, COVERS[:1]), (((1, 2), ()), ((), ())), (BOTH,), BOTH, None,
      (list(BOTH), COVERS), (((1, 2), (2, 1)), COVERS), (((True, 2), (1, 2)), COVERS), (BOTH, (COVERS[0], ())))),
    (("harder than", (FREE, ((0, 1),)), 12), ((((1,), (1, 2)), (((1, 1), (1, 2)),)),),
     (((((1, 2), (1, 2))), (((1, 1), (2, 2)),)), (((1,), (1, 2)), ()), (((1,), (1, 2)), (((1, 1),),)))),
    (("hardness", (ALIKE, ()), 2), ((ROW, (BOTH, COVERS)),),
     ((ROW, None), (ROW,), (None, (BOTH, COVERS)), ((BOTH, COVERS), ROW), ROW, (ROW, (BOTH, COVERS[:1])), (ROW, (BOTH, DONE)), None)),
    (("hardness", (ALIKE, ((0, 1), (1, 1))), 0), (((), None),), (((), ()), ((), (BOTH, COVERS)), ((),), (), None, (None, None), ((), 0))),
    (("tight", (ALIKE, ())), (((1, 1), OTHERS, ()),),
     (((1, 1), OTHERS), ((1, 1), OTHERS, ((1, 1),)), ((2, 2), OTHERS, ()), (OTHERS, (1, 1), ()), ((1, 1), OTHERS, []), None)),
    (("tight", (FREE, ((0, 1), (1, 2)))), (((1, 2), ((), ()), ((2, 2), (1, 1))),),
     (((1, 2), ((), ()), ((1, 1), (2, 2))), ((1, 2), ((), ()), ((2, 2),)), ((1, 2), ((), ()), ((2, 2), (2, 1))),
      ((1, 2), ((), ()), ((1, 2), (1, 2))), ((2, 1), ((), ()), ((2, 2), (1, 1))), ((1, 2), ((),), ((2, 2), (1, 1))))),
    (("idle", (ALIKE, ((0, 1),)), 0), (((1, 1), OTHERS),),
     (((1, 1), ((), BACK)), ((2, 2), OTHERS), ((1, 1),), (OTHERS, (1, 1)), ((1, 1), OTHERS, ()), ((1, True), OTHERS), None)),
    (("gap", ALIKE, (1, 1), 1, (0, 1)), ((BOTH, COVERS),),
     ((((1,), (1, 2)), COVERS), (BOTH, COVERS[::-1]), (BOTH, COVERS[:1]), BOTH, (BOTH,), (((2,), (1, 2)), COVERS), None)),
    (("gap", SQUARE, (1, 2, 2, 1), 12, (0, 1, 2, 3)), ((((1, 2),) * 4, (((1, 2, 2, 1), (2, 1, 1, 2)),)),),
     ((((1, 2),) * 4, (((1, 2, 2, 1),),)), (((1, 2), (1, 2), (1, 2), (1,)), (((1, 2, 2, 1), (2, 1, 1, 2)),)))),
    (("gap", FREE, (1, 2), 0, (0, 1)), ((BOTH, (((1, 1), (2, 2)),)), (BOTH, (((1, 2), (2, 1)),))), ((BOTH, ()), (((1,), (1, 2)), (((1, 1), (1, 2)),)))),
    (("fewest", ALIKE, (1, 1), 2, 0), (((), ROW, ()),),
     (((0,), (LAST,), ()), ((), ROW), ((), (REASON,), ()), ((), ROW, None), ((), ROW, (BOTH, COVERS, ())), ([], ROW, ()), None)),
    (("fewest", ALIKE, (1, 1), 1, 1), (((0,), (LAST,), (BOTH, COVERS, ())), ((1,), (((0,), 0, 2, ("rule", 0)),), (BOTH, COVERS, ()))),
     (((1,), (LAST,), (BOTH, COVERS, ())), ((0,), (LAST,), ()), ((0,), (LAST,), (BOTH, COVERS)), ((), ROW, ()), ((0,), (), (BOTH, COVERS, ())),
      ((0,), (LAST,), (BOTH, COVERS, ((BOTH, COVERS, ()),) * 2)), ((0,), (LAST,), (((1,), (1, 2)), COVERS, ())), ((0, 1), (), (BOTH, COVERS, ())),
      ((0,), (LAST,), [BOTH, COVERS, ()]), ((False,), (LAST,), (BOTH, COVERS, ())), ((0,), (LAST,), (BOTH, COVERS, [])))),
    (("fewest", FREE, (1, 2), 3, 2),
     (((0, 1), (), (((1, 2), (2,)), (((1, 2), (2, 2)),), ((((1,), (1, 2)), (((1, 1), (1, 2)),), ()),))),
      ((0, 1), (), (BOTH, (((1, 2), (2, 1)),), ((((1,), (1, 2)), (((1, 1), (1, 2)),), ()), (((1, 2), (2,)), (((1, 2), (2, 2)),), ()))))),
     (((0, 1), (), (((1, 2), (2,)), (((1, 2), (2, 2)),), ())), ((0, 1), (), (BOTH, (((1, 2), (2, 1)),), ())),
      ((0, 1), (), (((1, 2), (2,)), (((1, 2), (2, 2)),), ((((1, 2), (2,)), (((1, 2), (2, 2)),), ()),))),
      ((0, 1), (), (BOTH, (((1, 2), (2, 1)),), ((((1, 2), (2,)), (((1, 2), (2, 2)),), ()), (((1,), (1, 2)), (((1, 1), (1, 2)),), ())))))),
    (("reasoned up to", (ALIKE, ()), (("strike", 0, 2), ("strike", 1, 2)), 2), (((REASON,), (LAST,)), (ROW, (LAST,)),),
     (((REASON,), ()), ((), ()), ((REASON,),), ((REASON,), (LAST,), ()), ((LAST,), (REASON,)), (REASON, LAST), [(REASON,), (LAST,)], None)),
    (("reasoned up to", (ALIKE, ()), (("write", 1, 1), ("undo",), ("strike", 0, 2), ("write", 1, 1)), 12),
     (((REASON, LAST), (), (REASON,), (LAST,)),),
     (((REASON,), (), (REASON,), (LAST,)), ((REASON, LAST), (REASON,), (REASON,), (LAST,)), ((REASON, LAST), None, (REASON,), (LAST,)),
      ((REASON, LAST), [], (REASON,), (LAST,)), ((REASON, LAST), (), (REASON, LAST), (LAST, LAST)))),
    (("reasoned up to", (ALIKE, ((0, 1), (1, 2))), (), 0), ((),), (((),), None, [], 0)),
    (("turned", (SQUARE, ((0, 1),)), (SQUARE, ((3, 2),))), ((3, (2, 1)), (7, (2, 1))),
     ((3, (1, 2)), (0, (2, 1)), (True, (2, 1)), (3, [2, 1]), (3, (2, 1), ()), [3, (2, 1)], (8, (2, 1)), None, (), (3, (2, True)))),
    (("turned", (ALIKE, ((0, 1),)), ((1, 2, 2, (("sum", (0, 1), 2, 3), ("steps", 1, 0, 0, 0))), ((1, 1),))), ((1, (1, 2)), (3, (1, 2))),
     ((0, (1, 2)), (1, (2, 1)), (5, (1, 2)))),
)
# What is not so, or is no claim, beside the paper that is the nearest to one.
WRONG = (
    (("fills", SQUARE, (1, 2, 1, 2)), ()), (("fills", SQUARE, (1, 2, 2, True)), ()), (("fills", SQUARE[:3], (1, 2, 2, 1)), ()),
    (("fills", SQUARE, [1, 2, 2, 1]), ()), (("fills", SQUARE, (1, 2, 2)), ()), (("fills", SQUARE), ()),
    (("fills", SQUARE, (1, 2, 2, 1), ()), ()), (["fills", SQUARE, (1, 2, 2, 1)], ()), (("Fills", SQUARE, (1, 2, 2, 1)), ()),
    ((b"fills", SQUARE, (1, 2, 2, 1)), ()), (("fills", (2, 2, True, ()), (1, 1, 1, 1)), ()),
    (("none", (ALIKE, ())), TREE), (("none", (ALIKE, ((0, 3),))), TREE), (("none", ALIKE), TREE), (("none", (ALIKE, [(0, 2)])), TREE),
    (("none", (ALIKE, ((0, 2),)), ()), TREE),
    (("one", (ALIKE, ()), (1, 2)), OTHERS), (("one", (ALIKE, ()), (2, 2)), OTHERS), (("one", (ALIKE, ()), (1, True)), OTHERS),
    (("one", (ALIKE, ()), [1, 1]), OTHERS), (("one", (ALIKE, ((0, 2), (1, 2))), (2, 2)), ((), ())), (("one", (FREE, ()), (1, 1)), OTHERS),
    (("one", (ALIKE, ((0, 2),)), (1, 1)), ((), (TREE,))), (("one", (ALIKE, ())), OTHERS),
    (("two", (SQUARE, ((0, 1),))), ((1, 2, 2, 1), (2, 1, 1, 2))), (("two", (ALIKE, ())), ((1, 1), (2, 2))),
    (("two", (SQUARE, ()), 2), ((1, 2, 2, 1), (2, 1, 1, 2))),
    (("follows", ALIKE, BOTH, (0,), 0, 2), TREE), (("follows", ALIKE, BOTH, (1, 0), 0, 2), TREE), (("follows", ALIKE, BOTH, (0, 1), 0, 3), TREE),
    (("follows", ALIKE, BOTH, (0, 1), False, 2), TREE), (("follows", ALIKE, BOTH, [0, 1], 0, 2), TREE), (("follows", ALIKE, BOTH, (0, True), 0, 2), TREE),
    (("follows", ALIKE, ((1,), (1, 2)), (0, 1), 0, 2), TREE), (("follows", ALIKE, BOTH, (0, 1), (0, 2)), TREE),
    (("follows", ALIKE, BOTH, (0, 1, 2), 0, 2), TREE), (("follows", ALIKE, list(BOTH), (0, 1), 0, 2), TREE),
    (("follows not", ALIKE, BOTH, (0, 1), 0, 2), (2, 2)), (("follows not", ALIKE, ((1,), (1, 2)), (0,), 0, 2), (2, 2)),
    (("follows not", ALIKE, ((1,), (1, 2)), (), 0, 1), (2, 1)), (("follows not", ALIKE, ((1, 2), ()), (), 0, 1), (1, 1)),
    (("least lot", ALIKE, ((2,), (1, 2)), (0, 1), 1, 1), (("rule", 0), ((2, 1), (2, 1)))),
    (("least lot", ALIKE, BOTH, (0,), 0, 2), (TREE, ((2, 1),))), (("least lot", ALIKE, BOTH, (), 0, 2), (("void", 1), ())),
    (("end", ALIKE, BOTH, 2, BOTH), ((), COVERS)), (("end", ALIKE, BOTH, 1, ((1,), (1,))), (ROW, (((1, 1),), ((1, 1),)))),
    (("end", ALIKE, BOTH, 2, ((1,), (1, 2))), ((REASON,), (((1, 1), (1, 2)),))), (("end", ALIKE, BOTH, 13, ((1,), (1,))), (ROW, DONE)),
    (("end", ALIKE, BOTH, True, BOTH), ((), COVERS)), (("end", ALIKE, BOTH, 2, ((True,), (1,))), (ROW, DONE)), (("end", ALIKE, BOTH, 2), (ROW, DONE)),
    (("end", ALIKE, BOTH, -1, BOTH), ((), COVERS)), (("end", ALIKE, BOTH, 2, [(1,), (1,)]), (ROW, DONE)),
    (("hard up to", (ALIKE, ()), 1), ROW), (("hard up to", (ALIKE, ()), True), ROW), (("hard up to", (ALIKE, ()), 13), ROW),
    (("hard up to", (ALIKE, ((0, 1), (1, 2))), 0), ()), (("hard up to", (FREE, ()), 2), ()), (("hard up to", (ALIKE, ()), None), ROW),
    (("harder than", (ALIKE, ()), 2), (BOTH, COVERS)), (("harder than", (ALIKE, ()), 2), (((1,), (1,)), DONE)),
    (("harder than", (ALIKE, ((0, 1),)), 0), (BOTH, (COVERS[0],))), (("harder than", (ALIKE, ()), True), (BOTH, COVERS)),
    (("harder than", (ALIKE, ()), 1, 1), (BOTH, COVERS)),
    (("hardness", (ALIKE, ()), 1), (ROW, (BOTH, (COVERS[0],)))), (("hardness", (ALIKE, ()), 3), (ROW, (BOTH, COVERS))),
    (("hardness", (ALIKE, ()), 0), (ROW, None)), (("hardness", (ALIKE, ((0, 1),)), 2), ((LAST,), (BOTH, COVERS))),
    (("hardness", (FREE, ()), 0), ((), None)), (("hardness", (ALIKE, ()), "2"), (ROW, (BOTH, COVERS))),
    (("tight", (ALIKE, ((0, 1),))), ((1, 1), ((), BACK), ((2, 2),))), (("tight", (ALIKE, ((0, 1),))), ((1, 1), ((), BACK), ((1, 1),))),
    (("tight", (FREE, ((0, 1),))), ((1, 2), ((), ()), ((2, 2),))), (("tight", (ALIKE, ()), 0), ((1, 1), OTHERS, ())), (("tight", ALIKE), ((1, 1), OTHERS, ())),
    (("idle", (ALIKE, ()), 0), ((1, 1), OTHERS)), (("idle", (ALIKE, ((0, 1),)), 1), ((1, 1), OTHERS)), (("idle", (ALIKE, ((0, 2),)), 0), ((1, 1), OTHERS)),
    (("idle", (ALIKE, ((0, 1),)), False), ((1, 1), OTHERS)), (("idle", (ALIKE, ((0, 1),)), 2), ((1, 1), OTHERS)), (("idle", (ALIKE, ((0, 1),)), None), ((1, 1), OTHERS)),
    (("idle", (SQUARE, ((0, 1),)), 0), ((1, 2, 2, 1), ((), (), (), ()))),
    (("gap", ALIKE, (1, 1), 2, (0, 1)), (BOTH, COVERS)), (("gap", ALIKE, (1, 1), 1, (0,)), (BOTH, COVERS)), (("gap", ALIKE, (1, 1), 1, ()), (((1,), (1,)), (((1, 1),),) * 2)),
    (("gap", ALIKE, (1, 2), 1, (0, 1)), (BOTH, COVERS)), (("gap", ALIKE, (1, 1), 1, (1, 0)), (BOTH, COVERS)), (("gap", ALIKE, (1, 1), 1, (0, True)), (BOTH, COVERS)),
    (("gap", ALIKE, (1, 1), 1, [0, 1]), (BOTH, COVERS)), (("gap", ALIKE, (2, 2), 1, (0, 1)), (BOTH, COVERS)),
    (("fewest", ALIKE, (1, 1), 2, 1), ((0,), (LAST,), (BOTH, COVERS, ()))), (("fewest", ALIKE, (1, 1), 1, 2), ((0, 1), (), (BOTH, COVERS, ((BOTH, COVERS, ()),) * 2))),
    (("fewest", ALIKE, (1, 1), 1, 0), ((), ROW, ())), (("fewest", ALIKE, (1, 1), 1, True), ((0,), (LAST,), (BOTH, COVERS, ()))),
    (("fewest", ALIKE, (1, 1), 1, -1), ((), ROW, ())), (("fewest", ALIKE, (1, 1), 1, 10 ** 399), ((0,), (LAST,), (BOTH, COVERS, ()))),
    (("fewest", ALIKE, (1, 2), 1, 1), ((0,), (LAST,), (BOTH, COVERS, ()))),
    (("reasoned up to", (ALIKE, ()), (("strike", 0, 2), ("strike", 1, 2)), 1), ((REASON,), (LAST,))),
    (("reasoned up to", (ALIKE, ()), (("strike", 0, 2),), 2), ((REASON,),)), (("reasoned up to", (ALIKE, ()), (("write", 0, 2), ("write", 1, 2)), 2), ((REASON,), (LAST,))),
    (("reasoned up to", (ALIKE, ()), (("undo",),), 2), ((),)), (("reasoned up to", (ALIKE, ()), [("strike", 0, 2), ("strike", 1, 2)], 2), ((REASON,), (LAST,))),
    (("reasoned up to", (ALIKE, ()), (("strike", 0, 2), ("strike", 1, 2)), 13), ((REASON,), (LAST,))), (("reasoned up to", (ALIKE, ()), (), 2), ()),
    (("reasoned up to", (ALIKE, ()), (("strike", 0, 2), ("strike", 1, 2), ("strike", 1, 1)), 2), ((REASON,), (LAST,), (LAST,))),
    (("turned", (SQUARE, ((0, 1),)), (SQUARE, ((3, 3),))), (3, (2, 1))), (("turned", (SQUARE, ((0, 1),)), (SQUARE[:3] + (SQUARE[3][:3],), ((3, 2),))), (3, (2, 1))),
    (("turned", (ALIKE, ()), (ALIKE, ())), (1, (1, 2))), (("turned", (FREE, ()), ((2, 1, 2, ()), ())), (0, (1, 2))),
    (("turned", (FREE, ()), ((1, 2, 3, ()), ())), (0, (1, 2))), (("turned", (FREE, ()), (FREE, []),), (0, (1, 2))), (("turned", (FREE, ())), (0, (1, 2))),
    ((), ()), (("",), ()), (("nothing", SQUARE), ()), (None, ()), ("fills", ()), (("fills",), ()),
)


class ByHand(unittest.TestCase):
    def test_right_claims_with_right_papers_and_others(self):
        self.assertEqual({claim[0] for claim, papers, others in RIGHT}, set(WORDS))
        for claim, papers, others in RIGHT:
            for paper in papers:
                self.assertIs(accepts(claim, paper), True, (claim, paper))
            for paper in others:
                self.assertIs(accepts(claim, paper), False, (claim, paper))

    def test_what_is_not_so_or_no_claim(self):
        self.assertEqual({claim[0] for claim, paper in WRONG if type(claim) is tuple and claim} - {"", "nothing", "Fills", b"fills"},
                         set(WORDS))
        for claim, paper in WRONG:
            self.assertIs(accepts(claim, paper), False, (claim, paper))
            self.assertFalse(is_claim(claim) and is_so(claim) and accepts_plainly(claim, paper), claim)

    def test_the_plain_checker_says_the_same(self):
        for claim, papers, others in RIGHT:
            self.assertTrue(is_claim(claim) and is_so(claim), claim)
            for paper in papers:
                self.assertTrue(accepts_plainly(claim, paper), (claim, paper))
            for paper in others:
                self.assertFalse(accepts_plainly(claim, paper), (claim, paper))

    def test_one_part_too_few_or_too_many(self):
        for claim, papers, others in RIGHT:
            for at in range(len(claim)):
                self.assertIs(accepts(claim[:at] + claim[at + 1:], papers[0]), False)
                self.assertIs(accepts(claim[:at] + ((),) + claim[at:], papers[0]), False)
            for more in ((), None, 0, papers[0]):
                self.assertIs(accepts(claim + (more,), papers[0]), False)
            self.assertIs(accepts(list(claim), papers[0]), False)

    def test_papers_of_other_claims(self):
        for claim, papers, others in RIGHT:
            for other, right, wrong in RIGHT:
                for paper in right + wrong:
                    self.assertIs(accepts(claim, paper), accepts_plainly(claim, paper), (claim, paper))

    def test_claims_by_other_words(self):
        for claim, papers, others in RIGHT:
            for word in WORDS:
                renamed = (word,) + claim[1:]
                self.assertIs(accepts(renamed, papers[0]), accepts_plainly(renamed, papers[0]), (renamed, papers[0]))


class AnyValues(unittest.TestCase):
    def test_values_of_any_kind(self):
        for value in STRANGE:
            for other in STRANGE[::7]:
                self.assertIs(accepts(value, other), False)
            for claim, papers, others in RIGHT:
                self.assertIs(accepts(value, papers[0]), False)
                self.assertIs(accepts(claim, value), accepts_plainly(claim, value), (claim, value))
                for at in range(len(claim)):
                    bad = claim[:at] + (value,) + claim[at + 1:]
                    self.assertIs(accepts(bad, papers[0]), accepts_plainly(bad, papers[0]), (bad, papers[0]))
                if type(papers[0]) is tuple:
                    for at in range(len(papers[0])):
                        bad = papers[0][:at] + (value,) + papers[0][at + 1:]
                        self.assertIs(accepts(claim, bad), accepts_plainly(claim, bad), (claim, bad))
        self.assertIs(accepts(nested(59), nested(59)), False)

    def test_names_and_positions(self):
        self.assertIs(accepts(claim=("fills", SQUARE, (1, 2, 2, 1)), paper=()), True)
        self.assertIs(accepts(("fills", SQUARE, (1, 2, 2, 1)), paper=()), True)
        self.assertIs(accepts(paper=(), claim=("fills", SQUARE, (1, 2, 2, 2))), False)


class Bent(unittest.TestCase):
    def test_papers_bent_at_one_place(self):
        told = {word: [0, 0] for word in WORDS}
        for dice, claim, paper in certified(701, 40):
            for _ in range(12):
                other = bent(dice, paper)
                one = accepts_plainly(claim, other)
                self.assertIs(accepts(claim, other), one, (claim, other))
                told[claim[0]][one] += 1
        self.assertTrue(all(some[False] > 20 for some in told.values()), told)

    def test_claims_bent_at_one_place(self):
        told = {word: [0, 0] for word in WORDS}
        for dice, claim, paper in certified(702, 40):
            for _ in range(12):
                other = bent(dice, claim)
                if is_large(other):
                    continue
                one = accepts_plainly(other, paper)
                self.assertIs(accepts(other, paper), one, (other, paper))
                if one:
                    self.assertTrue(is_so(other), other)
                told[claim[0]][one] += 1
        self.assertTrue(all(some[False] > 20 for some in told.values()), told)

    def test_twice_bent(self):
        for dice, claim, paper in certified(703, 30):
            for _ in range(6):
                one, other = bent(dice, claim), bent(dice, bent(dice, paper))
                if not is_large(one):
                    self.assertIs(accepts(one, paper), accepts_plainly(one, paper), (one, paper))
                self.assertIs(accepts(claim, other), accepts_plainly(claim, other), (claim, other))


class Exchanged(unittest.TestCase):
    def test_no_paper_for_a_claim_that_is_not_so(self):
        dice = random.Random(704)
        accepted = 0
        for _ in range(25):
            kind = some_small_kind(dice)
            some = some_claims(dice, kind) + some_claims(dice, kind)
            for claim, paper in some:
                for other, others_paper in some:
                    if accepts(claim, others_paper):
                        accepted += 1
                        self.assertTrue(is_so(claim), (claim, others_paper))
                        self.assertTrue(accepts_plainly(claim, others_paper))
                    if claim[0] == other[0]:
                        mixed = claim[:-1] + other[-1:]
                        if accepts(mixed, paper):
                            self.assertTrue(is_so(mixed), (mixed, paper))
        self.assertGreater(accepted, 300)


if __name__ == "__main__":
    unittest.main()
