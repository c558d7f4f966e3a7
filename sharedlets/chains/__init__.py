"""Chains of families, and graphs of families without a chain."""
