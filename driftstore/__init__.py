"""Driftstore: programs on a memory that stirs itself."""
