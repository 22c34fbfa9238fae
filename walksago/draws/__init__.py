"""Draws by going back."""
