"""Words, prefixes and streams."""
