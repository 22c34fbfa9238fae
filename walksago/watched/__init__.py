"""Which states are enough to watch."""
