"""Deeds that are described by items."""

from needpegs.errors import NoDeed
from needpegs.forms import is_deed
from needpegs.turns import Turn
from needpegs.ways import Way
from needpegs.wishes import Wish


def do_deed(company, item):
    """Makes the deed that an item describes and returns its cost; raises NoDeed if it describes none."""
    if not is_deed(item):
        raise NoDeed("item")
    word = item[0]
    if word == "enter":
        return company.enter(item[1], item[2])
    if word == "leave":
        return company.leave(item[1])
    if word == "put":
        return company.put_in(item[1], item[2])
    if word == "take":
        return company.take_out(item[1], item[2])
    if word == "walk":
        return company.walk(item[1], told_way(company.stand(item[1]), item[2]))
    if word == "obey":
        return company.obey(item[1], Wish(item[2], item[3]))
    return company.gather(wish=Wish(item[1], item[2]))


def told_way(stand, texts):
    """The way with these texts of turns on the board of a stand."""
    return Way(stand.board, [Turn.read(text) for text in texts])
