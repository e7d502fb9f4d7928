"""The smallest image of a program, with a paper that shows that it is."""

from foldsame.forms import pairs_of
from foldsame.search import best_of, search_of


def smallest(program):
    """The folding of the smallest image of a program. Raises LimitExceeded."""
    search = search_of(program)
    return best_of([search.judged(fold) for fold in search.folds() if fold.legal]).fold.as_folding()


def apart_entry(joins, fold):
    """The entry of a Fold that is not legal: two unlike pieces of one address, with a path."""
    pairs = [pair for part in fold.addresses for pair in pairs_of(part)]
    one, other = [pair for pair in pairs if not joins.alike(fold.joined, pair)][0]
    return ("apart", (one, other), joins.path(fold.joined, (one, other)))


def entry_of(joins, fold, judged):
    """The entry of a Fold whose image, if there is one, is not the smallest."""
    if judged is None:
        return apart_entry(joins, fold)
    if judged.noticed is not None:
        return ("noticed", judged.noticed)
    return ("large", list(judged.moments))


def paper_of(search, folds, judged):
    """The paper, by the Folds of all partitions; judged has None for those not legal. Raises LimitExceeded."""
    best = best_of([one for one in judged if one is not None]).fold
    entries = [entry_of(search.joins, fold, one) for fold, one in zip(folds, judged) if fold.joined != best.joined]
    return (best.addresses, search.table(best), entries)


def smallest_paper(program):
    """The addresses and the table of the smallest image, and an entry for all others. Raises LimitExceeded."""
    search = search_of(program)
    folds = search.folds()
    return paper_of(search, folds, [search.judged(fold) if fold.legal else None for fold in folds])
