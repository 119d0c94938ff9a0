"""Orders of small tables, and what becomes of single streams."""
