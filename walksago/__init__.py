"""Walksago: exact draws by walks begun long ago."""
