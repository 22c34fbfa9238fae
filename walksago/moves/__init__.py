"""Webs of moves as texts, and what their moves do."""
