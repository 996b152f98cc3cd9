"""Fourbind: one program, bound four ways."""
