"""Overfold: shelves laid over one another."""
