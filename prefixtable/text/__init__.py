"""Texts of all kinds of values."""
