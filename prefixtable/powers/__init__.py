"""Powers of tables, and products that are told by texts."""
