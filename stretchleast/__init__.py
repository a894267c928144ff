"""Stretchleast: the least of every stretch of a row."""
