"""Walkrooms: rooms within rooms that walk."""
