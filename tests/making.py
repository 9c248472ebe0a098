"""Channels made for tests."""

from wirechannel.channels import Channel


def made(top, bottom, left=(), right=(), wide=(), bends=(), keeps=()):
    return Channel(list(top), list(bottom), list(left), list(right), list(wide), list(bends), list(keeps))
