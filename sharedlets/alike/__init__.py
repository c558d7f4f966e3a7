"""Matchings of graphs, and first differences."""
