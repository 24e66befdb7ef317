"""Arguments that break a rule, in a zone with one gap or one fold, where a library does not meet its condition."""

GAP_ZONE = (0, ((0, 2),))
FOLD_ZONE = (0, ((0, -2),))

# Arguments that break a rule for each library that does not meet its condition.
IN_GAP = {
    "to universal and back": ((0, 0),),
    "every reading": (0,),
    "some reading": (0,),
    "sum of durations": ((-1, 0), 1, 2),
    "elapsed time": ((-1, 0), 3),
    "sums told": ((-1, 0), 1),
    "difference recovers": ((-1, 0), (0, 0)),
    "order by difference": ((0, 0), (2, 0)),
    "one instant means equal": ((0, 0), (2, 0)),
    "one instant, one time": ((0, 0), (2, 0)),
    "order of instants": ((0, 0), (2, 0)),
}

IN_FOLD = {
    "every reading": (-1,),
    "some reading": (-1,),
    "sums told": ((-3, 0), 2),
    "difference recovers": ((-3, 0), (-1, 1)),
    "order by difference": ((-1, 0), (-1, 1)),
    "equal means one instant": ((-1, 0), (-1, 1)),
    "order of instants": ((-1, 0), (-1, 1)),
}


def arguments_in_gap(library, rule):
    """Return arguments in GAP_ZONE for which a rule does not hold, where its condition for skips is not met."""
    if rule in IN_GAP:
        return IN_GAP[rule]
    sums, gap = library[0], library[2]
    match rule:
        case "there and back":
            return ((-1, 0), 1) if sums == "wall" else ((0, 0), 1)
        case "same clock":
            return ((-24, 0),) if sums == "wall" else ((-1, 0),)
        case "later":
            return ((1, 0), 1) if gap == "keep" else ((-1, 0), 1)
        case "order kept":
            return ((-2, 0), (-1, 0), 3) if sums == "wall" else ((0, 0), (2, 0), 1)
        case "equal sums":
            return ((0, 0), (2, 0), 2) if gap == "keep" else ((-1, 0), (-1, 0), 1)


def arguments_in_fold(library, rule):
    """Return arguments in FOLD_ZONE for which a rule does not hold, where its condition for repeats is not met."""
    if rule in IN_FOLD:
        return IN_FOLD[rule]
    sums, fold = library[0], library[3]
    if rule == "from universal and back":
        return (-2,) if fold == "second" else (0,)
    if rule == "equal sums":
        return ((-3, 0), (-3, 0), 2) if fold == "refuse" else ((-1, 0), (-1, 1), 1)
    if rule == "later" and fold == "refuse":
        return ((-3, 0), 2)
    if sums == "wall":
        return _arguments_in_fold_for_wall_sums(fold, rule)
    return _arguments_in_fold_for_elapsed_sums(fold, rule)


def _arguments_in_fold_for_wall_sums(fold, rule):
    match rule:
        case "there and back":
            return ((-1, 1), 1) if fold == "both" else ((0, 0), -1)
        case "sum of durations":
            return ((0, 0), -1, 1)
        case "elapsed time":
            return ((-3, 0), 3)
        case "same clock":
            return ((-25, 0),)
        case "later":
            return ((-2, 1), 1)
        case "order kept":
            return ((-4, 0), (-3, 0), 2) if fold == "refuse" else ((-1, 0), (-2, 1), 1)


def _arguments_in_fold_for_elapsed_sums(fold, rule):
    match rule:
        case "there and back" | "elapsed time":
            return ((-1, 0), 1) if fold == "first" else ((0, 0), -4)
        case "sum of durations":
            return ((-1, 0), 1, 3) if fold == "first" else ((0, 0), -4, 4)
        case "same clock":
            return ((-3, 0),)
        case "later":
            return ((-1, 0), 1)
        case "order kept":
            return ((-5, 0), (-4, 0), 4)
