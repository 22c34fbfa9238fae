"""The project's tests."""
