"""The papers that lines of a worksheet ask for, their judges, and their texts."""

from branchsheets.coverjudges import takes_alike, takes_blocks, takes_galois, takes_over
from branchsheets.coverpapers import alike_paper, blocks_paper, galois_paper, over_paper
from branchsheets.datumjudges import takes_below, takes_datum, takes_joining
from branchsheets.datumpapers import below_paper, datum_paper, joining_paper
from branchsheets.groupjudges import takes_index, takes_linked, takes_member, takes_order, takes_product
from branchsheets.grouppapers import index_paper, linked_paper, member_paper, order_paper, product_paper
from branchsheets.movejudges import takes_braid, takes_graphs, takes_walk
from branchsheets.movepapers import braid_paper, graphs_paper, walk_paper
from branchsheets.surfacejudges import takes_filled, takes_independent, takes_renumbered, takes_swaps, takes_trace
from branchsheets.surfacepapers import filled_paper, independent_paper, renumbered_paper, swaps_paper, trace_paper
from branchsheets.whole import integer_text, ratio_text

YES_WORDS = ("alike", "over", "linked", "braid", "galois", "blocks", "slate", "filled", "system", "swaps", "chain",
             "by", "walk")


def _asked(word, items):
    """What the maker and the judge of a line take, in their order."""
    if word == "braid":
        return tuple([S[1] for S in items])
    if word in ("walk", "graphs"):
        return items[1:] + items[:1]
    if word == "product":
        k, w, words = items
        return (k, words, w)
    return items


def made_paper(word, items):
    """The paper that a line asks for."""
    makers = {
        "alike": alike_paper, "over": over_paper, "linked": linked_paper, "braid": braid_paper,
        "galois": galois_paper, "blocks": blocks_paper, "order": order_paper, "member": member_paper,
        "filled": filled_paper, "trace": trace_paper, "independent": independent_paper, "exists": datum_paper,
        "joining": joining_paper, "swapped": swaps_paper, "below": below_paper, "renumber": renumbered_paper,
        "walk": walk_paper, "graphs": graphs_paper, "product": product_paper, "index": index_paper,
    }
    maker = makers[word]
    args = _asked(word, items)
    return maker(*args)


def takes_paper(word, items, paper):
    """True if the judge of a line accepts a paper."""
    judges = {
        "alike": takes_alike, "over": takes_over, "linked": takes_linked, "braid": takes_braid,
        "galois": takes_galois, "blocks": takes_blocks, "order": takes_order, "member": takes_member,
        "filled": takes_filled, "trace": takes_trace, "independent": takes_independent, "exists": takes_datum,
        "joining": takes_joining, "swapped": takes_swaps, "below": takes_below, "renumber": takes_renumbered,
        "walk": takes_walk, "graphs": takes_graphs, "product": takes_product, "index": takes_index,
    }
    judge = judges[word]
    args = _asked(word, items)
    return judge(*args, paper)


def paper_text(word, paper):
    """The text that belongs to a paper that the judge of a line accepts."""
    if word in ("order", "trace"):
        return integer_text(paper[1])
    if word == "graphs":
        return ratio_text(paper[1])
    if word == "index":
        return integer_text(paper[1][0]) if paper[0] == "index" else "none"
    is_yes = paper[0] in YES_WORDS or (word, paper[0]) in (("product", "product"), ("independent", "apart"))
    return "yes" if is_yes else "no"
