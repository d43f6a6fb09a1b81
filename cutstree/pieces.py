"""The pieces of a web: places that ways of ties join."""

from cutstree.reaching import joined_by


def pieces(web):
    return joined_by(web.many, [(i, j) for i, j, weight in web.ties])
