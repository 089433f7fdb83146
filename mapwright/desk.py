"""A desk that keeps worlds by names and is told lines."""

from mapwright.alike import alike
from mapwright.allmaps import many_maps, some_maps
from mapwright.errors import BadNote, NoName
from mapwright.joins import nothing, one_thing, product, sum_of
from mapwright.notes import map_text, number_text, world_read, world_text
from mapwright.pieces import pieces
from mapwright.powers import power
from mapwright.seeds import seed
from mapwright.truths import truths

MOST_MAPS = 50
MOST_LETTERS = 8
LETTERS = "abcdefghijklmnopqrstuvwxyz"

# What stands behind a line's first word: N a name to keep a world by, A the name of a kept one, K a kind's number,
# T a world's text.
FORMS = {
    "keep": ("N", "T"),
    "seed": ("N", "K"),
    "one": ("N",),
    "none": ("N",),
    "truths": ("N",),
    "times": ("N", "A", "A"),
    "plus": ("N", "A", "A"),
    "power": ("N", "A", "A"),
    "drop": ("A",),
    "names": (),
    "show": ("A",),
    "pieces": ("A",),
    "many": ("A", "A"),
    "maps": ("A", "A"),
    "alike": ("A", "A"),
}


class Desk:
    """Worlds of a pattern, kept by names."""

    def __init__(self, pattern):
        self.pattern = pattern
        self.kept = {}

    def say(self, line):
        """Do what a line asks, and answer it."""
        words = words_of(line)
        check_words(self.pattern, words)
        form = FORMS[words[0]]
        worlds = [self.world_by(word) for word, sort in zip(words[1:], form) if sort == "A"]
        if "N" in form:
            # Made first and kept then, so that nothing is changed where the making is refused.
            world = made_world(self.pattern, words, worlds)
            self.kept[words[1]] = world
            return "ok"
        if words[0] == "drop":
            self.kept.pop(words[1])
            return "ok"
        if words[0] == "names":
            return " ".join(sorted(self.kept))
        return told_text(self.pattern, words[0], worlds)

    def world_by(self, name):
        """The world that is kept by a name."""
        if name not in self.kept:
            raise NoName("nothing is kept by this name")
        return self.kept[name]


def words_of(line):
    """The words of a line; all that follows the name to keep by is one."""
    if not isinstance(line, str):
        raise BadNote("a line is a text")
    words = line.split(" ")
    if words[0] == "keep" and len(words) > 2:
        return words[:2] + [" ".join(words[2:])]
    return words


def check_words(pattern, words):
    """Refuse what is no line of the desk."""
    if words[0] not in FORMS:
        raise BadNote("there is no such line")
    form = FORMS[words[0]]
    if len(words) != len(form) + 1:
        raise BadNote("the line has another count of words")
    for word, sort in zip(words[1:], form):
        if sort == "K" and word not in kind_words(pattern):
            raise BadNote("this is no kind's number")
        if sort in ("N", "A") and not is_name(word):
            raise BadNote("a name has one to eight small letters")


def kind_words(pattern):
    """The kinds' numbers as words."""
    return [str(kind) for kind in range(pattern.kinds())]


def is_name(word):
    """Whether a word is a name."""
    return 1 <= len(word) <= MOST_LETTERS and all([sign in LETTERS for sign in word])


def made_world(pattern, words, worlds):
    """The world that a line asks to keep, worlds being those whose names stand in it."""
    if words[0] == "keep":
        return world_read(pattern, words[2])
    if words[0] == "seed":
        return seed(pattern, int(words[2]))
    if words[0] == "one":
        return one_thing(pattern)
    if words[0] == "none":
        return nothing(pattern)
    if words[0] == "truths":
        return truths(pattern)[0]
    if words[0] == "times":
        return product(pattern, worlds[0], worlds[1])[0]
    if words[0] == "plus":
        return sum_of(pattern, worlds[0], worlds[1])[0]
    return power(pattern, worlds[0], worlds[1])[0]


def told_text(pattern, word, worlds):
    """The answer to a line that asks something of kept worlds."""
    if word == "show":
        return world_text(worlds[0])
    if word == "pieces":
        return str(len(pieces(pattern, worlds[0])))
    if word == "many":
        return number_text(many_maps(pattern, worlds[0], worlds[1]))
    if word == "maps":
        return " / ".join([map_text(some) for some in some_maps(pattern, worlds[0], worlds[1], MOST_MAPS)])
    return paper_text(alike(pattern, worlds[0], worlds[1]))


def paper_text(paper):
    """The text of what tells that two worlds are alike or unlike."""
    if paper[0] == "alike":
        text = map_text(paper[1])
        return f"alike {text}"
    text = world_text(paper[1])
    here = number_text(paper[2])
    there = number_text(paper[3])
    return f"unlike {here} {there} {text}"
