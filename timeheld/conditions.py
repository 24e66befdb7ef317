"""The two conditions behind each rule: what a library needs for it over gaps, and over folds."""


def holds_over_gaps(library, rule):
    """Return whether a library meets the condition of a rule for skips."""
    sums, order, gap, _ = library
    match rule:
        case "from universal and back" | "equal means one instant":
            return True
        case "to universal and back" | "one instant, one time":
            return gap != "keep"
        case "every reading":
            return gap == "keep"
        case "some reading":
            return gap != "refuse"
        case "there and back":
            return gap == "keep" if sums == "wall" else gap != "keep"
        case "sum of durations":
            return sums == "elapsed" or gap == "keep"
        case "elapsed time":
            return sums == "elapsed"
        case "same clock":
            return sums == "wall" and gap == "keep"
        case "later" | "equal sums":
            return sums == "elapsed" or gap == "shift" or (gap == "keep" and order == "wall")
        case "sums told":
            return sums == "elapsed" or gap != "refuse"
        case "difference recovers":
            return sums == "wall" or gap != "keep"
        case "order by difference":
            return sums == order or gap != "keep"
        case "one instant means equal" | "order of instants":
            return order == "elapsed" or gap != "keep"
        case "order kept":
            if sums == "wall":
                return order == "wall" and gap == "keep"
            return order == "elapsed" or gap != "keep"


def holds_over_folds(library, rule):
    """Return whether a library meets the condition of a rule for repeats."""
    sums, order, _, fold = library
    match rule:
        case "to universal and back" | "one instant means equal" | "one instant, one time":
            return True
        case "from universal and back":
            return fold == "both"
        case "every reading" | "some reading" | "sums told":
            return fold != "refuse"
        case "there and back":
            return fold in ("first", "second") if sums == "wall" else fold == "both"
        case "sum of durations":
            return fold != "refuse" if sums == "wall" else fold == "both"
        case "elapsed time":
            return sums == "elapsed" and fold == "both"
        case "same clock":
            return sums == "wall" and fold != "refuse"
        case "later":
            return fold == "second" or (sums == "wall" and fold == "first") or (fold == "both" and sums == order)
        case "difference recovers":
            return sums == "elapsed" or fold != "both"
        case "order by difference":
            return sums == order or fold != "both"
        case "equal means one instant" | "order of instants":
            return order == "elapsed" or fold != "both"
        case "order kept":
            if sums == "wall":
                return fold in ("first", "second") or (fold == "both" and order == "wall")
            return order == "elapsed" and fold == "both"
        case "equal sums":
            return fold in ("first", "second") or (fold == "both" and (sums == "wall" or order == "elapsed"))
