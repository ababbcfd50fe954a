"""Pages: how a post is written, and read again."""

from roamlook.boards import read_board
from roamlook.deeds import deed_text, read_deed
from roamlook.errors import BadText, Missing, RoamError
from roamlook.posts import Post


def page(post):
    """Write a post: its board, then each standing deed, a line for each."""
    lines = [str(post.board())] + [deed_text(deed) for deed in post.deeds()]
    return "".join([line + "\n" for line in lines])


def read_first(line):
    """Read the board from the first line of a page."""
    try:
        return read_board(line)
    except BadText as why:
        # That tells the number of a word, not of the line.
        raise BadText(0) from why


def read_page(text):
    """Read a post; refuse the first line that isn't so written, that is refused, or that lacks its line feed."""
    *lines, rest = text.split("\n")
    if len(lines) == 0:
        raise BadText(0)
    post = Post(read_first(lines[0]))
    for at, line in enumerate(lines[1:], start=1):
        try:
            post.do(read_deed(line))
        except (RoamError, Missing) as why:
            raise BadText(at) from why
    if rest != "":
        raise BadText(len(lines))
    return post
