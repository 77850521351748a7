"""Frontparts: sums of words whose letters never change places."""
