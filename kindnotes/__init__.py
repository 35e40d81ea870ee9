"""Kindnotes: where a program must say its kinds."""
