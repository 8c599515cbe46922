"""Odd values, plain judges of them, and checks that wrong arguments are refused in sequence."""

import itertools

from stillread import errors

DEEP = (((((((((1,),),),),),),),),)

ODD = (
    None, True, False, -1, 0, 1, 40, 61, 996, 997, 10 ** 59, -10 ** 59, 10 ** 99, -10 ** 99,
    "", "a", "abcd", "abcde", "A", "a1", " ", "#", "a\n", "\n", "\x7f", "x" * 60000, "x" * 60001, "x" * 61000,
    (), ((),), (None,), (True,), (False,), (0,), (0, 1), (1, 0), (1, 1), (997,), (-1,), ("a",), ("put",),
    (1, (1,)), ((0, 1),), ((0, 1), (0, 1)), ((0, True),), ([0, 1],), (10 ** 99,), (0,) * 61, (1,) * 61,
    [], [0], [1, 2], ["a"], [[]], {}, {"a": (1,)}, {"a": [1]}, {"a": (True,)}, {"abcde": ()}, {1: ()},
    {None: ()}, {True: 1}, {(): ()}, DEEP, [DEEP], ("put", "a", ()), ("put", "a", [1]), ("drop", "a"),
    ("out", 0, 1), (("out", 0, 1),), ((1, 1),), (1, True), (True, True), (0, 0),
    ((1, 1, None, ("put", "a", ()), 1),), ((1, 1, None, ("put", "a", ()), True),),
    errors.InvalidNumber(3), errors.Refused(("gone", "a")), (errors.UnknownName("a"),),
)


def is_int(value, least=None, most=None):
    if value is True or value is False or not isinstance(value, int):
        return False
    return (least is None or least <= value) and (most is None or value <= most)


def is_cell(value):
    return is_int(value, 0, 996)


def is_cells(value, most=None):
    return isinstance(value, tuple) and all(map(is_cell, value)) and (most is None or len(value) <= most)


def is_name(value):
    return isinstance(value, str) and 1 <= len(value) <= 4 and set(value) <= set("abcdefghijklmnopqrstuvwxyz")


def is_text(value):
    return isinstance(value, str) and len(value) <= 60000 and all(32 <= ord(sign) <= 126 for sign in value)


def is_poly(value):
    return is_cells(value) and (not value or value[-1] != 0)


def is_save_name(value):
    return isinstance(value, tuple) and len(value) == 2 and all(is_int(part, 1, 996) for part in value)


def odd_but(judge):
    """The odd values that are not of the kind."""
    return [value for value in ODD if not judge(value)]


def check_raises(case, error, function, arguments):
    """The call raises just this error; `error` is a class, or a class and what it keeps."""
    wanted, kept = error if isinstance(error, tuple) else (error, {})
    with case.assertRaises(wanted) as caught:
        function(*arguments)
    case.assertIs(caught.exception.__class__, wanted)
    for name, value in kept.items():
        case.assertEqual(repr(getattr(caught.exception, name)), repr(value))


def error_for(error, value):
    """What is kept of a wrong value by the errors that keep it."""
    if error is errors.InvalidNumber:
        return (error, {"given": value})
    return error


def check_wrong(case, function, good, wrong, then=()):
    """Each wrong argument alone, each two at once, and each beside what comes with "then".

    `wrong` has a pair (error, values) for each argument, `None` for one that takes every value;
    `then` has triples (error, arguments, places of those arguments that can be exchanged).
    """
    function(*good)
    for at, told in enumerate(wrong):
        if told is None:
            continue
        error, values = told
        case.assertTrue(values)
        for value in values:
            with case.subTest(function=function.__name__, at=at, value=repr(value)[:60]):
                check_raises(case, error_for(error, value), function, good[:at] + (value,) + good[at + 1:])
        check_pairs(case, function, good, wrong, at)
    for error, arguments, places in then:
        with case.subTest(function=function.__name__, then=repr(arguments)[:60]):
            check_raises(case, error, function, arguments)
        for at in places:
            own, values = wrong[at]
            for value in values[:4]:
                given = arguments[:at] + (value,) + arguments[at + 1:]
                check_raises(case, error_for(own, value), function, given)


def check_pairs(case, function, good, wrong, at):
    """With one more wrong argument behind it, the first one's error is raised."""
    error, values = wrong[at]
    for more in range(at + 1, len(wrong)):
        if wrong[more] is None:
            continue
        for value, other in itertools.product(values[:3], wrong[more][1][:3]):
            given = good[:at] + (value,) + good[at + 1:more] + (other,) + good[more + 1:]
            with case.subTest(function=function.__name__, at=(at, more), given=repr(given)[:60]):
                check_raises(case, error_for(error, value), function, given)
