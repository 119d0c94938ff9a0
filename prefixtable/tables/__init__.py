"""Tables, how they are built, and of which kinds they are."""
