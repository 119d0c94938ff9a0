"""Sets of streams that are told by their beginnings."""
