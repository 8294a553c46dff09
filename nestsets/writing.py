"""Nests as texts."""


def written(nest):
    return "{" + ",".join([written(member) for member in nest]) + "}"
