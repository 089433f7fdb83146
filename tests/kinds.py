"""What each test of kinds of values asks."""


def assert_tuples(test, told):
    """Tuples of tuples, however deep, and whole numbers, neither True nor False, within them."""
    test.assertIs(type(told), tuple)
    for some in told:
        if type(some) is not int:
            assert_tuples(test, some)
