"""Nearpapers: what houses can show one another by short papers."""
