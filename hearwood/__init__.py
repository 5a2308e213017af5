"""Hearwood: who heard a tale from whom, at the least cost."""
