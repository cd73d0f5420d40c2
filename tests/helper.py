"""What several tests need: wrong things of all kinds, and the proof that none was changed."""

import copy

OTHER_KINDS = (None, True, False, "", "a", "1", (), (1,), [], [1], [[1]], {}, {"a": 1}, {1: [2]})


def keeps(case, act, *things, **named):
    """Calls act of the things, and tells what it tells; fails where a thing is not as ahead."""
    ahead = copy.deepcopy((things, named))
    try:
        return act(*things, **named)
    finally:
        case.assertEqual(repr((things, named)), repr(ahead))


def refuses(case, error, act, *things, **named):
    """Fails but where act is refused with this very class, the things as ahead; tells the error."""
    with case.assertRaises(error) as caught:
        keeps(case, act, *things, **named)
    case.assertIs(type(caught.exception), error)
    return caught.exception
