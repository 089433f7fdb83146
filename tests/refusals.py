"""What each test of a refusal asks."""

from mapwright import errors

CLASSES = (errors.NoPattern, errors.NoMap, errors.TooMany, errors.NoSaying, errors.NoName, errors.BadNote)


def assert_refused(test, wanted, call):
    """The call is refused with the wanted class, which is a MapError, a ValueError, and none of the others."""
    with test.assertRaises(ValueError) as caught:
        call()
    test.assertIsInstance(caught.exception, errors.MapError)
    test.assertIsInstance(caught.exception, wanted)
    test.assertNotIsInstance(caught.exception, tuple([other for other in CLASSES if other is not wanted]))
