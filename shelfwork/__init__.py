"""Shelfwork: deeds, and the shelves they may touch."""
