"""Runmarks: sets of numbers kept small, and tables asked by them."""
