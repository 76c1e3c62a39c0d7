"""Openorder: programs whose expressions leave the order of their parts open."""
