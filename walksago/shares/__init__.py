"""Shares from state to state, and those that rest."""
