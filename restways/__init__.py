"""Restways: ways told by neighbours, each house with likings of its own."""
