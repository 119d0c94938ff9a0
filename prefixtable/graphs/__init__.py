"""Closed graphs of tables, the moves that reduce them, and their matchings."""
