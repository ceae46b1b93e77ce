"""Rules that mark an axis, understood for all ranges at once."""
