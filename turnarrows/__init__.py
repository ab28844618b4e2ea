"""Turnarrows: arrows that turn at each leaving."""
