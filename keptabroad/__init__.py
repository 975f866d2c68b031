"""Keptabroad: deeds over several houses, each of which keeps any of its cards when it falls."""
