"""Families of definitions with parameters."""
