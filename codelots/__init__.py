"""Codelots: all codes of a text, numbered."""
