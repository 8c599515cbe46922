"""Runs examples as the document shows them: rows of code, each perhaps with its result."""


def run_examples(case, block, names):
    """Runs the rows of a block in the names; a row without `>>>` is the result of the one ahead."""
    rows = [row.strip() for row in block.splitlines() if row.strip()]
    for at, row in enumerate(rows):
        if not row.startswith(">>> "):
            continue
        code = row[4:]
        told = rows[at + 1] if at + 1 < len(rows) and not rows[at + 1].startswith(">>> ") else None
        with case.subTest(code=code):
            if told is None:
                exec(code, names)
            elif told.startswith("raises "):
                check_raised(case, code, told[7:], names)
            else:
                case.assertEqual(repr(eval(code, names)), told)


def check_raised(case, code, told, names):
    """The code raises just the told error, with what the told error keeps."""
    word = told.split("(")[0]
    wanted = names[word]
    with case.assertRaises(wanted) as caught:
        eval(code, names)
    case.assertIs(caught.exception.__class__, wanted)
    if "(" in told:
        case.assertEqual(vars(caught.exception), vars(eval(told, names)))
