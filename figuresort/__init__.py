"""Figuresort: rows put in order by their figures."""
