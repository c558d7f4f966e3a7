"""Addresses in the unfolding of a graph, and counts of its places."""
