"""Stairrooms: rooms with one number, and what can be come to."""
