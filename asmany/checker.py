"""Claims: checked, and what follows from them for a book."""

from asmany.boats import is_split, is_trip
from asmany.clashes import is_clash_tree, is_row_of_four
from asmany.cores import is_book_path
from asmany.court import AsMany, court, is_verdict
from asmany.crossings import is_crossing
from asmany.errors import InvalidRun, Refused
from asmany.filling import is_filling
from asmany.haste import is_best
from asmany.layouts import is_way
from asmany.left import can_be_left
from asmany.mirrors import is_session_story, session_story_of
from asmany.nets import net_book
from asmany.parts import lacking, plenty
from asmany.plans import is_plan
from asmany.prices import are_prices, is_mix
from asmany.runs import check_run
from asmany.served import is_served_by
from asmany.sides import is_side
from asmany.stories import is_story
from asmany.striking import is_strikes
from asmany.times import is_prompt

# For each word the number of the arguments that a claim has.
CLAIM_SIZES = {
    "best": 4, "book_path": 3, "clash_tree": 2, "crossing": 2, "filling": 2, "left": 3, "mix": 3, "plan": 3,
    "prices": 3, "prompt": 3, "row_of_four": 2, "run": 3, "served_by": 3, "session_story": 2, "side": 2,
    "split": 2, "story": 2, "strikes": 2, "trip": 3, "verdict": 2, "way": 2,
}


def claim_words():
    """The lot of the words of claims."""
    return tuple(sorted(CLAIM_SIZES))


def check_claim(claim):
    """Whether a claim holds; False for any other value."""
    if not isinstance(claim, tuple) or len(claim) == 0 or not isinstance(claim[0], str):
        return False
    word, *told = claim
    if word not in CLAIM_SIZES or len(told) != CLAIM_SIZES[word]:
        return False
    check = _checks()[word]
    return check(*told)


def concluded(book, claims):
    """What claims show of a book: even, uneven, or nothing."""
    shown = [_shown(claim) for claim in claims if check_claim(claim)]
    words = []
    for evens, unevens in shown:
        words.extend(["even" for one in evens if _is_part(book, one)])
        words.extend(["uneven" for one in unevens if _is_part(one, book)])
    return tuple(sorted(set(words)))


def gathered(book):
    """Claims each of which alone shows whether a book is even."""
    verdict = court(book)
    claim = ("verdict", book, verdict)
    if isinstance(verdict, AsMany):
        return claim, ("book_path", book, book, (book,))
    story = verdict.story
    return claim, ("story", book, story), ("session_story", book, session_story_of(book, story))


def _checks():
    """For each word its function."""
    return {
        "best": is_best, "book_path": is_book_path, "clash_tree": is_clash_tree, "crossing": is_crossing,
        "filling": is_filling, "left": can_be_left, "mix": is_mix, "plan": is_plan, "prices": are_prices,
        "prompt": is_prompt, "row_of_four": is_row_of_four, "run": _is_run, "served_by": is_served_by,
        "session_story": is_session_story, "side": is_side, "split": is_split, "story": is_story,
        "strikes": is_strikes, "trip": is_trip, "verdict": is_verdict, "way": is_way,
    }


def _is_run(book, pool, run):
    """Whether a run is one from a pool."""
    try:
        check_run(book, pool, run)
    except InvalidRun:
        return False
    return True


def _shown(claim):
    """The books that a claim which holds shows to be even, and those not to be."""
    word, first, last = claim[0], claim[1], claim[-1]
    if word == "book_path":
        return last, ()
    if word == "verdict":
        return ((first,), ()) if isinstance(last, AsMany) else ((), (first,))
    if word == "strikes":
        return ((), (first,)) if last.lot else ((first,), ())
    if word in ("story", "session_story"):
        return (), (first,)
    if word in ("mix", "best") and sum(last[1]) > sum(last[0]):
        return (), (first,)
    if word == "crossing":
        return (), (net_book(first),)
    return (), ()


def _is_part(part, book):
    """Whether a book is a part of another one."""
    # If any lot leaves just these kinds, then all the other kinds together leave the same.
    others = tuple([kind for kind in book.kinds if kind not in part.kinds])
    for cut in (lacking, plenty):
        try:
            if cut(book, others) == part:
                return True
        except Refused:
            continue
    return False
