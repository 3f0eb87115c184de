"""Walledin: walls set one after the other."""
