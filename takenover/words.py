"""The words for what is true in all, none or some of the doings."""


def word_for(can_be_true, can_be_untrue):
    """Return the word, by whether it is true in some doing, and untrue in some doing."""
    if can_be_true:
        return "open" if can_be_untrue else "surely"
    return "never" if can_be_untrue else "none"
