"""Nets with dials and a holding in them, which several tests use."""

from stoodthen.nets import line_net, ring_net
from tests.samples import BOW, CHORD, HANDLE, KITE, PAIR, POINT, RING, ROW, SQUARE, STAR

TIED = (("ties", (0, 1, 2)),)
BOTH_SHARED = (("dial", 0), ("dial", 0))

HELD = (
    (POINT, (2,), ()), (POINT, (2, 3), ()),
    (PAIR, (2,), (("dial", 0),)), (PAIR, (2, 4), (("ties", (1,)),)), (PAIR, (3,), (("ties", (0,)),)),
    (ROW, (3,), BOTH_SHARED), (ROW, (3, 5), (("dial", 1), ("dial", 1))), (ROW, (2, 2), (("dial", 1), ("dial", 0))),
    (ROW, (2, 3), (("ties", (1,)), ("dial", 0))), (ROW, (2, 2, 2), (("dial", 2), ("ties", (0,)))),
    (RING, (3,), (("dial", 0),)), (RING, (2, 2, 2), TIED), (RING, (2, 3, 2, 4), (("ties", (3, 0, 1)),)),
    (KITE, (2, 2, 2, 4), (("ties", (2, 1, 0)), ("dial", 3))), (KITE, (4,), BOTH_SHARED),
    (KITE, (3, 2), (("dial", 0), ("ties", (1,)))), (KITE, (2, 2, 2, 2, 2), (("ties", (4, 1, 2)), ("ties", (0,)))),
    (STAR, (4,), (("dial", 0),) * 3), (STAR, (2, 3), (("dial", 1), ("dial", 0), ("dial", 1))),
    (STAR, (2, 3, 2), (("ties", (0,)), ("dial", 1), ("dial", 1))),
    (SQUARE, (4,), (("dial", 0),)), (SQUARE, (2, 2, 2, 2), (("ties", (3, 1, 0, 2)),)),
    (CHORD, (2,) * 5, (("ties", (0, 1, 2, 3, 4)),)), (CHORD, (2, 5), (("dial", 1),)),
    (BOW, (5,), BOTH_SHARED), (BOW, (3, 3), (("dial", 1), ("dial", 0))),
    (BOW, (2, 3, 2, 2), (("dial", 1), ("ties", (3, 0, 2)))), (BOW, (2, 2, 2, 3), (("ties", (1, 2, 0)), ("dial", 3))),
    (BOW, (2,) * 6, (("ties", (0, 2, 4)), ("ties", (5, 3, 1)))),
    (HANDLE, (2, 2, 2, 3), (("dial", 3), ("ties", (0, 2, 1)), ("dial", 3))),
    (HANDLE, (2, 4, 2), (("dial", 0), ("dial", 1), ("dial", 2))), (HANDLE, (5, 2), (("dial", 0),) * 2 + (("dial", 0),)),
    (HANDLE, (2, 2, 2, 2, 2), (("ties", (4,)), ("ties", (3, 2, 1)), ("dial", 0))),
    # A shared block behind a tied one, whose stages come last; a net numbered to and fro.
    ((5, ((0, 3), (0, 4), (1, 3), (2, 4))), (3, 3), (("dial", 0), ("dial", 1), ("dial", 0), ("dial", 1))),
    ((4, ((0, 2), (0, 3), (1, 3), (2, 3))), (2, 2, 2, 2), (("ties", (1, 2, 3)), ("dial", 0))),
    (line_net(6), (4, 3), (("dial", 0), ("dial", 1), ("dial", 0), ("dial", 1), ("dial", 0))),
    (ring_net(6), (2,) * 6, (("ties", tuple(range(6))),)),
)
