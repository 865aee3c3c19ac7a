"""Fallrow: stones standing in a row, and how many pushes are needed to fell them."""
